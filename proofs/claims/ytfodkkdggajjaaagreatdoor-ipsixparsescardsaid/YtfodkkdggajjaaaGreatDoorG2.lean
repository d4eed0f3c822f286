/-
  In this text, one behind the other: Lists, Ref, Ref2, Ref3, SixHex, SixShelf, ZShelf, XNum, FBase, XSplit, ZSplit, YRef, YSmall.
-/
import Derived.IntWalk
import Derived.Lib.Hide
import Derived.Lib.ConvBytes
import Derived.Lib.AtoiErrMem
import Derived.Shelf.Strings.Cut
import Derived.Shelf.Strings.Search3
import Derived.Shelf.Strings.OnBuilder
import Derived.Shelf.Pu.ParseUintPublic10
import Derived.Shelf.Spec.TrailingZeros
import Derived.Shelf.Strings.Split
import Derived.Shelf.Strconv.Itoa3
import Derived.WalkKit
import Derived.WalkSpells
import Derived.WalkLawsBesides
import Derived.LaidEql
import Derived.Stop.Asserts
import Derived.RowKitTokens
import Derived.Maps.AppendAt
import Derived.Test.YtfodkkdggajjaaaGreatDoorG1
import Derived.Test.YtfodkkdggajjaaaGreatDoorRows
/-
  Slices of runes that read as lists; utf.Decode, utf.Valid, utf.Encode and the document's Same, by their contracts.
-/
namespace Go.Proofs.YtfodkkdggajjaaaGreatDoor
open Go.RowKit

/-- A slice of runes that reads as a list; nil let in. -/
def Runes (w : World) (A : Option Addr) (l : List Int) : Prop :=
  ∀ i c, l[i]? = some c → ∃ b off, A = some ⟨b, off, none⟩ ∧ b < w.heap.size ∧ w.cell? ⟨b, off + i, none⟩ = some (.int .i32 c)

theorem Runes.below {w w' : World} {A : Option Addr} {l : List Int} (h : Runes w A l) (hb : Below w.heap.size w w') : Runes w' A l := by
  intro i c hc
  obtain ⟨b, off, e, hl, hc⟩ := h i c hc
  exact ⟨b, off, e, Nat.lt_of_lt_of_le hl hb.size, (hb.cell (p := ⟨b, off + i, none⟩) hl).trans hc⟩

theorem Runes.drewN {w : World} {A : Option Addr} {l : List Int} (h : Runes w A l) (n : Nat) : Runes (w.drewN n) A l :=
  h.below (below_drewN (Below.refl _ _) n)

theorem Tryz.infoR : (Tryz.prog.info? 21).map (fun i => (i.zero, i.size, i.bytes)) = some (some (.int .i32 0), 1, 4) := by kernel_rfl

/-- A slice of runes that the call made itself. -/
def Made (w w' : World) (v : Value) (l : List Int) : Prop :=
  w'.ownsRow w.heap.size 21 1 v l.length (l.map (Value.int .i32)) ∧ Below w.heap.size w w'

theorem Made.runes {w w' : World} {v : Value} {l : List Int} (h : Made w w' v l) : ∃ A c, v = .slice A l.length c ∧ Runes w' A l := by
  obtain ⟨h, hb⟩ := h
  rcases h.2 with ⟨rfl, h0⟩ | ⟨g, cap, cur, rfl, _⟩
  · rw [h0]
    obtain rfl := List.eq_nil_of_length_eq_zero h0
    exact ⟨none, 0, rfl, fun i s hs => by simp at hs⟩
  · rename_i hh
    refine ⟨_, _, rfl, fun i s hs => ?_⟩
    have hi : i < l.length := (List.getElem?_eq_some_iff.1 hs).1
    have hc := h.cellAt (g := g) i (by simpa using hi)
    refine ⟨g, 0, rfl, ?_, ?_⟩
    · exact (Array.getElem?_eq_some_iff.1 hh.2.1).1
    · rw [Nat.zero_add, hc, List.getElem?_map, hs]; rfl

theorem own_ge {w : World} {base : Nat} {e : TypeId} {size : Nat} {v : Value} {n : Nat} {xs : List Value} (h : w.ownsRow base e size v n xs) (k : Nat) (hk : v.ownBlock = some k) : base ≤ k := by
  rcases h.2 with ⟨rfl, _⟩ | ⟨g, cap, cur, rfl, hb, _⟩
  · simp [Value.ownBlock] at hk
  · simp [Value.ownBlock] at hk; omega

theorem own_below {w w' : World} {base : Nat} {e : TypeId} {size : Nat} {v : Value} {n : Nat} {xs : List Value} (h : w.ownsRow base e size v n xs) (hb : Below w.heap.size w w') : w'.ownsRow base e size v n xs := by
  obtain ⟨h1, h2⟩ := h
  refine ⟨h1, ?_⟩
  rcases h2 with h2 | ⟨g, cap, cur, rfl, hg, hh, r⟩
  · exact .inl h2
  · exact .inr ⟨g, cap, cur, rfl, hg, (hb.block g (Array.getElem?_eq_some_iff.1 hh).1).trans hh, r⟩
theorem Made.carry {w w1 w2 : World} {v : Value} {l : List Int} (h : Made w w1 v l) (hb : Below w1.heap.size w1 w2) : Made w w2 v l :=
  ⟨own_below h.1 hb, h.2.trans (hb.mono h.2.size)⟩
theorem Made.push {w wr w1 : World} {v v' : Value} {c : Int} {l : List Int} {tmp : Obj} (h : Made w wr v l)
    (hown : w1.ownsRow w.heap.size 21 1 v' (l.length + 1) (l.map (Value.int .i32) ++ [.int .i32 c])) (hg : (wr.alloc tmp).grownBy w1 v.ownBlock) : Made w w1 v' (l ++ [c]) := by
  refine ⟨by simpa using hown, (h.2.alloc h.2.size tmp).grown hg (by have := h.2.size; simp; omega) (own_ge h.1)⟩

def MadePost (w : World) (l : List Int) (e : Ending) (w' : World) : Prop := ∃ v, e = .returned v ∧ Made w w' v l

theorem extract_list (s : ByteArray) (k : Nat) : (s.extract k s.size).data.toList = s.data.toList.drop k := by
  simp only [ByteArray.data_extract, Array.toList_extract, List.extract_eq_take_drop]
  exact List.take_of_length_le (by simp)

/-- Decoding from a place on: what is behind it, and what is told till there. -/
def DecRel (w : World) (s : ByteArray) (at_ : Nat) (v : Value) (wr : World) : Prop :=
  ∃ l, dec s.data.toList = l ++ dec (s.data.toList.drop at_) ∧ l.length ≤ at_ ∧ Made w wr v l

theorem runes_bytes (l : List Int) : (runesBytes l).data.toList = enc l := by
  have h : ∀ (l : List Int) (s : ByteArray), (l.foldl (fun r n => r ++ Utf8.encode n) s).data.toList = s.data.toList ++ enc l := by
    intro l
    induction l with
    | nil => intro s; simp [enc]
    | cons c l ih => intro s; simp only [List.foldl_cons]; rw [ih]; simp [enc, enc1]
  exact (h l ByteArray.empty).trans (by simp)

theorem add_at (b off j : Nat) : (⟨b, off, none⟩ : Addr).add j = ⟨b, off + j, none⟩ := by
  unfold Addr.add
  split <;> simp_all

/-- Two lists that are the same. -/
def same (a b : List Int) : Bool := decide (a = b)

theorem ne_of_at {a b : List Int} {k : Nat} (ha : k < a.length) (hb : k < b.length) (h : a[k] ≠ b[k]) : same a b = false := by
  simp only [same, decide_eq_false_iff_not]
  rintro rfl
  exact h rfl
theorem ne_of_len {a b : List Int} (h : a.length ≠ b.length) : same a b = false := by
  simp only [same, decide_eq_false_iff_not]
  rintro rfl
  exact h rfl

end Go.Proofs.YtfodkkdggajjaaaGreatDoor

/-
  The document's answers of layer 2 (begin, value, bytes, Decode, Encode, Valid), by their contracts.
-/
namespace Go.Proofs.YtfodkkdggajjaaaGreatDoor
open Go.RowKit

/-- How many bytes, from a place on, are the longest begin of some scalar's. -/
def begOf (s : ByteArray) (k : Nat) (h : k < s.size) : Nat := if lensOf s[k].toNat = 0 then 0 else ext s[k].toNat (lensOf s[k].toNat) 1 (s.data.toList.drop (k + 1))

def BegRel (s : ByteArray) (k : Nat) (h : k < s.size) (n j : Nat) : Prop :=
  (n = 0 ∧ j = 0) ∨ (1 ≤ n ∧ 1 ≤ j ∧ j ≤ n ∧ k + j ≤ s.size ∧ ext s[k].toNat n 1 (s.data.toList.drop (k + 1)) = ext s[k].toNat n j (s.data.toList.drop (k + j)))

theorem BegRel.ends {s : ByteArray} {k : Nat} {h : k < s.size} {n j : Nat} (r : BegRel s k h n j) (hn : lensOf s[k].toNat = n)
    (hj : ¬ (0 < j ∧ j < n ∧ k + j < s.size) ∨ ∃ hs : k + j < s.size, fol s[k].toNat s[k + j].toNat j = false) : begOf s k h = j := by
  unfold begOf
  rcases r with ⟨h1, h2⟩ | ⟨h1, h2, h3, h4, h5⟩
  · rw [if_pos (by omega), h2]
  · rw [if_neg (by omega), hn, h5]
    rcases hj with hj | ⟨hs, hf⟩
    · by_cases e : j = n
      · subst e; exact ext_full _ _ _ _ (Nat.le_refl _)
      · rw [drop_end s (k + j) (by omega), ext_nil]
    · rw [drop_byte s (k + j) hs, ext_bad _ _ _ _ _ hf]
theorem BegRel.next {s : ByteArray} {k : Nat} {h : k < s.size} {n j : Nat} (r : BegRel s k h n j) (h0 : 0 < j) (h1 : j < n) (h2 : k + j < s.size) (hf : fol s[k].toNat s[k + j].toNat j = true) : BegRel s k h n (j + 1) := by
  rcases r with ⟨h1, h2⟩ | ⟨h1, h2, h3, h4, h5⟩
  · omega
  · refine .inr ⟨h1, by omega, by omega, by omega, ?_⟩
    rw [h5, drop_byte s (k + j) (by omega), ext_good _ _ _ _ _ (by omega) hf]
    rfl

theorem acc_snoc (v : Int) (t : List UInt8) (c : UInt8) : acc v (t ++ [c]) = 64 * acc v t + (c.toNat : Int) - 128 := by
  unfold acc; rw [List.foldl_append]; simp only [List.foldl]; omega

def ValRel (s : ByteArray) (h0 : 0 < s.size) (k : Nat) (v : Int) : Prop :=
  1 ≤ k ∧ k ≤ s.size ∧ v = acc (headBits s[0].toNat s.size) ((s.data.toList.drop 1).take (k - 1)) ∧
  (k = 1 → -300 ≤ v ∧ v ≤ 300) ∧ (k = 2 → -20000 ≤ v ∧ v ≤ 20000) ∧ (k = 3 → -1300000 ≤ v ∧ v ≤ 1300000) ∧ (k = 4 → -90000000 ≤ v ∧ v ≤ 90000000)

theorem ValRel.next {s : ByteArray} {h0 : 0 < s.size} {k : Nat} {v : Int} (r : ValRel s h0 k v) (h : k < s.size) : ValRel s h0 (k + 1) (64 * v + (s[k].toNat : Int) - 128) := by
  obtain ⟨r1, r2, r3, r4, r5, r6, r7⟩ := r
  have hu : s[k].toNat < 256 := s[k].toNat_lt
  refine ⟨by omega, by omega, ?_, by omega, by omega, by omega, by omega⟩
  rw [Nat.add_sub_cancel, take_byte s k h r1, acc_snoc, r3]

end Go.Proofs.YtfodkkdggajjaaaGreatDoor

/-
  The document's answers of layer 2 (bytes, Encode, Decode, Valid), by their contracts.
-/
namespace Go.Proofs.YtfodkkdggajjaaaGreatDoor
open Go.RowKit

theorem Tryz.infoB : (Tryz.prog.info? 5).map (fun i => (i.zero, i.size, i.bytes)) = some (some (.int .u8 0), 1, 1) := by kernel_rfl

/-- The values of bytes. -/
def cellsOf (l : List UInt8) : List Value := l.map fun c => Value.int .u8 (c.toNat : Int)

/-- A slice of bytes that the call made itself. -/
def MadeB (w w' : World) (v : Value) (l : List UInt8) : Prop :=
  w'.ownsRow w.heap.size 5 1 v l.length (cellsOf l) ∧ Below w.heap.size w w'

theorem MadeB.carry {w w1 w2 : World} {v : Value} {l : List UInt8} (h : MadeB w w1 v l) (hb : Below w1.heap.size w1 w2) : MadeB w w2 v l :=
  ⟨own_below h.1 hb, h.2.trans (hb.mono h.2.size)⟩

def BytesPost (c : Int) (w : World) (e : Ending) (w' : World) : Prop :=
  w.alloc (.cells (cellsOf (enc1 c)).toArray 5) = w' ∧ e = .returned (.slice (some ⟨w.heap.size, 0, none⟩) (enc1 c).length (enc1 c).length)

theorem cells1 (c : Int) (h0 : 0 ≤ c) (h1 : c < 128) : (cellsOf (enc1 c)).toArray = #[Value.int .u8 c] ∧ (enc1 c).length = 1 := by
  rw [enc1_one c h0 h1]
  refine ⟨?_, rfl⟩
  simp only [cellsOf, List.map, ofNat_toNat c.toNat (by omega)]
  rw [show ((c.toNat : Nat) : Int) = c by omega]
theorem cells2 (c : Int) (h0 : 128 ≤ c) (h1 : c < 2048) : (cellsOf (enc1 c)).toArray = #[Value.int .u8 (192 + c / 64), Value.int .u8 (128 + c % 64)] ∧ (enc1 c).length = 2 := by
  rw [enc1_two c h0 h1]
  refine ⟨?_, rfl⟩
  simp only [cellsOf, List.map, ofNat_toNat (192 + c.toNat / 64) (by omega), ofNat_toNat (128 + c.toNat % 64) (by omega)]
  rw [show ((192 + c.toNat / 64 : Nat) : Int) = 192 + c / 64 by omega, show ((128 + c.toNat % 64 : Nat) : Int) = 128 + c % 64 by omega]
theorem cells3 (c : Int) (h0 : 2048 ≤ c) (h1 : c < 65536) (h2 : c < 55296 ∨ 57343 < c) : (cellsOf (enc1 c)).toArray = #[Value.int .u8 (224 + c / 4096), Value.int .u8 (128 + c / 64 % 64), Value.int .u8 (128 + c % 64)] ∧ (enc1 c).length = 3 := by
  rw [enc1_three c h0 h1 h2]
  refine ⟨?_, rfl⟩
  simp only [cellsOf, List.map, ofNat_toNat (224 + c.toNat / 4096) (by omega), ofNat_toNat (128 + c.toNat / 64 % 64) (by omega), ofNat_toNat (128 + c.toNat % 64) (by omega)]
  rw [show ((224 + c.toNat / 4096 : Nat) : Int) = 224 + c / 4096 by omega, show ((128 + c.toNat / 64 % 64 : Nat) : Int) = 128 + c / 64 % 64 by omega, show ((128 + c.toNat % 64 : Nat) : Int) = 128 + c % 64 by omega]
theorem cells4 (c : Int) (h0 : 65536 ≤ c) (h1 : c ≤ 1114111) : (cellsOf (enc1 c)).toArray = #[Value.int .u8 (240 + c / 262144), Value.int .u8 (128 + c / 4096 % 64), Value.int .u8 (128 + c / 64 % 64), Value.int .u8 (128 + c % 64)] ∧ (enc1 c).length = 4 := by
  rw [enc1_four c h0 h1]
  refine ⟨?_, rfl⟩
  simp only [cellsOf, List.map, ofNat_toNat (240 + c.toNat / 262144) (by omega), ofNat_toNat (128 + c.toNat / 4096 % 64) (by omega), ofNat_toNat (128 + c.toNat / 64 % 64) (by omega), ofNat_toNat (128 + c.toNat % 64) (by omega)]
  rw [show ((240 + c.toNat / 262144 : Nat) : Int) = 240 + c / 262144 by omega, show ((128 + c.toNat / 4096 % 64 : Nat) : Int) = 128 + c / 4096 % 64 by omega, show ((128 + c.toNat / 64 % 64 : Nat) : Int) = 128 + c / 64 % 64 by omega, show ((128 + c.toNat % 64 : Nat) : Int) = 128 + c % 64 by omega]

theorem cellsOf_append (a b : List UInt8) : cellsOf (a ++ b) = cellsOf a ++ cellsOf b := by simp [cellsOf]
theorem cellsOf_one (l : List UInt8) : ∀ u ∈ cellsOf l, u.oneCell' = true := by
  intro u hu
  obtain ⟨c, _, rfl⟩ := List.mem_map.1 hu
  rfl
theorem MadeB.push {w wr w1 : World} {v v' : Value} {t l : List UInt8} {tmp : Obj} (h : MadeB w wr v l)
    (hown : w1.ownsRow w.heap.size 5 1 v' (l.length + t.length) (cellsOf l ++ cellsOf t)) (hg : (wr.alloc tmp).grownBy w1 v.ownBlock) : MadeB w w1 v' (l ++ t) := by
  refine ⟨by rw [cellsOf_append, List.length_append]; exact hown, (h.2.alloc h.2.size tmp).grown hg (by have := h.2.size; simp; omega) (own_ge h.1)⟩

theorem cells_new (w : World) (l : List Value) (t : TypeId) (j : Nat) (u : Value) (h : l[j]? = some u) : (w.alloc (.cells l.toArray t)).cell? ((⟨w.heap.size, 0, none⟩ : Addr).add j) = some u := by
  rw [add_at, World.cell?_alloc_at _ _ _ _ rfl, Nat.zero_add]
  simpa using h

def EncPost (l : List Int) (w : World) (e : Ending) (w' : World) : Prop :=
  ∃ t : ByteArray, t.data.toList = enc l ∧ e = .returned (.string t) ∧ Below w.heap.size w w'

theorem convert_bytes {w w' : World} {v : Value} {l : List UInt8} (h : MadeB w w' v l) : (convert 101 9 v).run Tryz.prog w' = .ok (.string ⟨l.toArray⟩) w' := by
  rcases h.1.2 with ⟨rfl, h0⟩ | ⟨g, cap, cur, rfl, _⟩
  · obtain rfl := List.eq_nil_of_length_eq_zero h0
    rw [run_convert_bytes_string w' _ _ _ _ _ _ Tryz.underlying101 Tryz.underlying5 Tryz.underlying9]
    rfl
  · exact run_convert_bytes_back w' _ _ _ ⟨g, 0, none⟩ cap l Tryz.underlying101 Tryz.underlying5 Tryz.underlying9 (fun j hj => by
      rw [add_at, Nat.zero_add, h.1.cellAt (g := g) j (by omega)]
      simp [cellsOf, hj])

theorem enc_take (l : List Int) (k : Nat) (h : k < l.length) : enc (l.take (k + 1)) = enc (l.take k) ++ enc1 l[k] := by
  unfold enc
  rw [List.take_succ_eq_append_getElem h, List.flatMap_append, List.flatMap_cons, List.flatMap_nil, List.append_nil]

end Go.Proofs.YtfodkkdggajjaaaGreatDoor

/-
  The document's Decode and Valid of layer 2, by their contracts.
-/
namespace Go.Proofs.YtfodkkdggajjaaaGreatDoor
open Go.RowKit

theorem one_beg_whole {s : ByteArray} {k b : Nat} (h : k < s.size) (hb : begOf s k h = b) (h0 : 0 < b) (hn : b = lensOf s[k].toNat) :
    one (s.data.toList.drop k) = (acc (headBits s[k].toNat b) ((s.data.toList.drop (k + 1)).take (b - 1)), b, true) := by
  unfold begOf at hb
  rw [if_neg (by omega)] at hb
  rw [drop_byte s k h]
  simp only [one]
  rw [if_pos (by omega), ← hn]
theorem one_beg_part {s : ByteArray} {k b : Nat} (h : k < s.size) (hb : begOf s k h = b) (hn : b = 0 ∨ b ≠ lensOf s[k].toNat) :
    one (s.data.toList.drop k) = (65533, max b 1, false) := by
  unfold begOf at hb
  rw [drop_byte s k h]
  simp only [one]
  by_cases e : lensOf s[k].toNat = 0
  · rw [if_pos e] at hb
    rw [e, ext_full _ _ _ _ (by omega), if_neg (by omega), ← hb]
    rfl
  · rw [if_neg e] at hb
    have hg := ext_ge s[k].toNat (lensOf s[k].toNat) (s.data.toList.drop (k + 1)) 1
    rw [if_neg (by omega), hb, Nat.max_eq_left (by omega)]
theorem beg_le {s : ByteArray} {k : Nat} (h : k < s.size) : begOf s k h ≤ 4 ∧ k + begOf s k h ≤ s.size := by
  unfold begOf
  have h1 := ext_le s[k].toNat (lensOf s[k].toNat) (s.data.toList.drop (k + 1)) 1
  have h2 := ext_le_n s[k].toNat (lensOf s[k].toNat) (s.data.toList.drop (k + 1)) 1
  have h3 := lensOf_le s[k].toNat
  simp at h1
  split <;> omega

theorem part_list (s : ByteArray) (k b : Nat) : (s.extract k (k + b)).data.toList = (s.data.toList.drop k).take b := by
  simp only [ByteArray.data_extract, Array.toList_extract, List.extract_eq_take_drop]
  congr 1; omega
theorem part_size (s : ByteArray) (k b : Nat) (h : k + b ≤ s.size) : (s.extract k (k + b)).size = b := by
  simp; omega

def ValPost (v : Int) (w : World) (e : Ending) (w' : World) : Prop := e = .returned (.int .i32 v) ∧ Below w.heap.size w w'
theorem enc_dec_eq (s t : ByteArray) (ht : t.data.toList = enc (dec s.data.toList)) : (t.toList == s.toList) = vld s.data.toList := by
  rw [ByteArray.toList_eq, ByteArray.toList_eq, ht, vld_eq]
  rw [Bool.eq_iff_iff]; simp

end Go.Proofs.YtfodkkdggajjaaaGreatDoor

/-
  The library's ParseUint at base 16 and 16 bits, for texts of one to four bytes, by its contract.
-/
namespace Go.Proofs.YtfodkkdggajjaaaGreatDoor
open Go.RowKit

theorem lower_is {c L : Int} (h : bits .or .u8 c 32 = L) (w : World) : Calls Tryz.prog 67 #[.int .u8 c] w fun e w' => e = .returned (.int .u8 L) ∧ w = w' := by
  go_enter Tryz.func67, Tryz.ntmps67
  go_wp2
  go_ret
  exact ⟨rfl, rfl⟩

/-- What a byte is to base 16: its bit 32 set, and its value. -/
theorem low_facts : ∀ n : Fin 256, (48 ≤ n.val ∧ n.val ≤ 57 ∧ val (n.val : Nat) = (n.val : Int) - 48)
    ∨ (57 < n.val ∧ n.val ≠ 95 ∧ 97 ≤ bits .or .u8 (n.val : Int) 32 ∧ bits .or .u8 (n.val : Int) 32 ≤ 102 ∧ val (n.val : Nat) = bits .or .u8 (n.val : Int) 32 - 87)
    ∨ (57 < n.val ∧ n.val ≠ 95 ∧ 103 ≤ bits .or .u8 (n.val : Int) 32 ∧ bits .or .u8 (n.val : Int) 32 ≤ 122 ∧ val (n.val : Nat) = -1)
    ∨ (n.val < 48 ∧ n.val ≠ 95 ∧ 0 ≤ bits .or .u8 (n.val : Int) 32 ∧ bits .or .u8 (n.val : Int) 32 < 97 ∧ val (n.val : Nat) = -1)
    ∨ (57 < n.val ∧ n.val ≠ 95 ∧ 0 ≤ bits .or .u8 (n.val : Int) 32 ∧ bits .or .u8 (n.val : Int) 32 < 97 ∧ val (n.val : Nat) = -1)
    ∨ (57 < n.val ∧ n.val ≠ 95 ∧ 122 < bits .or .u8 (n.val : Int) 32 ∧ bits .or .u8 (n.val : Int) 32 ≤ 255 ∧ val (n.val : Nat) = -1)
    ∨ (57 < n.val ∧ n.val = 95 ∧ 122 < bits .or .u8 (n.val : Int) 32 ∧ bits .or .u8 (n.val : Int) 32 ≤ 255 ∧ val (n.val : Nat) = -1) := by decide +kernel
theorem low_of (c : Nat) (h : c < 256) : ∃ L, bits .or .u8 (c : Int) 32 = L ∧ ((48 ≤ c ∧ c ≤ 57 ∧ val c = (c : Int) - 48)
    ∨ (57 < c ∧ c ≠ 95 ∧ 97 ≤ L ∧ L ≤ 102 ∧ val c = L - 87)
    ∨ (57 < c ∧ c ≠ 95 ∧ 103 ≤ L ∧ L ≤ 122 ∧ val c = -1)
    ∨ (c < 48 ∧ c ≠ 95 ∧ 0 ≤ L ∧ L < 97 ∧ val c = -1)
    ∨ (57 < c ∧ c ≠ 95 ∧ 0 ≤ L ∧ L < 97 ∧ val c = -1)
    ∨ (57 < c ∧ c ≠ 95 ∧ 122 < L ∧ L ≤ 255 ∧ val c = -1)
    ∨ (57 < c ∧ c = 95 ∧ 122 < L ∧ L ≤ 255 ∧ val c = -1)) := ⟨_, rfl, low_facts ⟨c, h⟩⟩

/-- A number and no error; or the error of the form. -/
def hexEnd : Option Nat → Value
  | some n => .tuple #[.int .u64 (n : Int), .nilIface]
  | none => .tuple #[.int .u64 0, .iface 128 (.int .i64 2)]
theorem digs_no {c : UInt8} {r : List UInt8} {acc : Nat} (h : val c.toNat = -1) : digs 16 acc (c :: r) = none := by
  rw [digs, if_neg (by omega)]
theorem digs_yes {c : UInt8} {r : List UInt8} {acc : Nat} {v : Int} (h : val c.toNat = v) (h0 : 0 ≤ v) (h1 : v < 16) : digs 16 acc (c :: r) = digs 16 (acc * 16 + v.toNat) r := by
  rw [digs, h, if_pos (by omega)]
theorem pow_room {k acc : Nat} (hk : k < 4) (h : acc < 16 ^ k) : acc ≤ 4095 := by
  have : 16 ^ k ≤ 16 ^ 3 := Nat.pow_le_pow_right (by decide) (by omega)
  omega
theorem pow_next {k acc d : Nat} (h : acc < 16 ^ k) (hd : d < 16) : acc * 16 + d < 16 ^ (k + 1) := by
  rw [Nat.pow_succ]; omega

set_option maxHeartbeats 8000000 in
set_option maxRecDepth 100000 in
theorem pu16_any (t : ByteArray) (hne : t.size ≠ 0) (h4 : t.size ≤ 4) (w : World) :
    Calls Tryz.prog 53 #[.string t, .int .i64 16, .int .i64 16] w fun e w' => e = .returned (hexEnd (digs 16 0 t.data.toList)) ∧ Below w.heap.size w w' := by
  have hemp : t.toList.isEmpty = false := by
    rw [← decide_eq_emptyBytes]
    exact decide_eq_false (fun h => hne (by rw [h]; rfl))
  have hcv := Lib.run_convert_string_bytes (P := Tryz.prog) w 9 101 5 t (u := .string) Tryz.underlying9 Tryz.underlying101 Tryz.underlying5
  have HB := Lib.hid (fun j (hj : j < t.size) => Lib.bytesWorld_cell w 5 t j hj)
  have HW : Hid (Below w.heap.size w (Lib.bytesWorld w 5 t)) := by
    show Below w.heap.size w (Lib.bytesWorld w 5 t)
    exact Lib.bytesWorld_below _ _ _
  obtain ⟨W1, hW1⟩ : ∃ W1, W1 = Lib.bytesWorld w 5 t := ⟨_, rfl⟩
  rw [← hW1] at hcv HB HW
  clear hW1
  obtain ⟨bs, hL⟩ : ∃ bs, bs = t.data.toList := ⟨_, rfl⟩
  have hLn : bs.length = t.size := by rw [hL]; simp
  rw [← hL] at HB ⊢
  clear hL
  have hmv : IntKind.u64.wrap (IntKind.u64.wrap 65536 - 1) = 65535 := by
    rw [IntKind.wrap_u64, IntKind.wrap_u64]
    decide
  obtain ⟨R, hR⟩ : ∃ R, digs 16 0 bs = R := ⟨_, rfl⟩
  rw [hR]
  go_enter Tryz.func53, Tryz.ntmps53
  go_wp2
  go_loop [12, 13, 101] (fun vu vn vi => ∃ (k acc : Nat) (a : Int), vu = .bool false ∧ vn = .int .u64 a ∧ vi = .int .i64 k ∧ k ≤ t.size ∧ Hid (a = (acc : Int) ∧ acc < 16 ^ k ∧ R = digs 16 acc (bs.drop k)))
    (fun _ _ vi => t.size - (intOf vi).toNat)
  case atStart => exact ⟨0, 0, 0, rfl, rfl, rfl, by omega, rfl, by decide, hR.symm⟩
  case round =>
    obtain ⟨k, acc, a, rfl, rfl, rfl, hk, hh⟩ := hrel
    by_cases hkn : k < t.size
    · have hc := HB.out k hkn
      have hacc : acc ≤ 4095 := pow_room (by omega) hh.out.2.1
      have ha : a = (acc : Int) := hh.out.1
      have a0 : 0 ≤ a := by omega
      have a1 : a ≤ 4095 := by omega
      have hdrop : bs.drop k = bs[k]'(by omega) :: bs.drop (k + 1) := List.drop_eq_getElem_cons (by omega)
      have hget : bs.getD k 0 = bs[k]'(by omega) := by simp [List.getD, List.getElem?_eq_getElem (show k < bs.length by omega)]
      have hdec := hh.out.2.2
      rw [hdrop] at hdec
      rw [hget] at hc
      generalize bs[k]'(by omega) = c at hc hdec
      have HDec := Lib.hid hdec
      clear hdec hdrop hget hemp hcv hR
      have hc256 : c.toNat < 256 := c.toNat_lt
      obtain ⟨L, hL, hcase⟩ := low_of c.toNat hc256
      have hge : decide ((1152921504606846976 : Int) ≤ a) = false := decide_eq_false (by omega)
      rcases hcase with ⟨d0, d1, hv⟩ | ⟨hnd, h95, l0, l1, hv⟩ | ⟨hnd, h95, l0, l1, hv⟩ | ⟨hnd, h95, l0, l1, hv⟩ | ⟨hnd, h95, l0, l1, hv⟩ | ⟨hnd, h95, l0, l1, hv⟩ | ⟨hnd, h95, l0, l1, hv⟩
      · have HN : Hid (a * 16 + ((c.toNat : Int) - 48) = ((acc * 16 + ((c.toNat : Int) - 48).toNat : Nat) : Int) ∧ acc * 16 + ((c.toNat : Int) - 48).toNat < 16 ^ (k + 1) ∧ R = digs 16 (acc * 16 + ((c.toNat : Int) - 48).toNat) (bs.drop (k + 1))) :=
          Lib.hid ⟨by omega, pow_next hh.out.2.1 (by omega), HDec.out.trans (digs_yes hv (by omega) (by omega))⟩
        clear hv hh HDec ha hacc
        have h95i : ((c.toNat : Int) == 95) = false := beq_eq_false_iff_ne.2 (by omega)
        go_wp2
        go_round
        case rel => exact ⟨k + 1, acc * 16 + ((c.toNat : Int) - 48).toNat, a * 16 + ((c.toNat : Int) - 48), by first | rfl | trivial, by go_num, by go_num, by omega, HN⟩
        case measure => simp [intOf]; omega
      · have HN : Hid (a * 16 + (L - 97 + 10) = ((acc * 16 + (L - 87).toNat : Nat) : Int) ∧ acc * 16 + (L - 87).toNat < 16 ^ (k + 1) ∧ R = digs 16 (acc * 16 + (L - 87).toNat) (bs.drop (k + 1))) :=
          Lib.hid ⟨by omega, pow_next hh.out.2.1 (by omega), HDec.out.trans (digs_yes hv (by omega) (by omega))⟩
        clear hv hh HDec ha hacc
        have h95i : ((c.toNat : Int) == 95) = false := beq_eq_false_iff_ne.2 (by omega)
        have h48 : (48 : Int) ≤ (c.toNat : Int) := by omega
        have h57 : ¬ ((c.toNat : Int) ≤ 57) := by omega
        go_wp2_with (go_at_call 67; refine (lower_is hL _).mono ?_; rintro e w' ⟨rfl, rfl⟩)
        go_round
        case rel => exact ⟨k + 1, acc * 16 + (L - 87).toNat, a * 16 + (L - 97 + 10), by first | rfl | trivial, by go_num, by go_num, by omega, HN⟩
        case measure => simp [intOf]; omega
      · have HN : Hid (R = none) := HDec.out.trans (digs_no hv)
        clear hv hh HDec ha hacc
        have h95i : ((c.toNat : Int) == 95) = false := beq_eq_false_iff_ne.2 (by omega)
        have h48 : (48 : Int) ≤ (c.toNat : Int) := by omega
        have h57 : ¬ ((c.toNat : Int) ≤ 57) := by omega
        go_wp2_with (go_at_call 67; refine (lower_is hL _).mono ?_; rintro e w' ⟨rfl, rfl⟩)
        go_ret2
        exact ⟨by rw [HN.out]; rfl, HW.out⟩
      · have HN : Hid (R = none) := HDec.out.trans (digs_no hv)
        clear hv hh HDec ha hacc
        have h95i : ((c.toNat : Int) == 95) = false := beq_eq_false_iff_ne.2 (by omega)
        have h48 : ¬ ((48 : Int) ≤ (c.toNat : Int)) := by omega
        go_wp2_with (go_at_call 67; refine (lower_is hL _).mono ?_; rintro e w' ⟨rfl, rfl⟩)
        go_ret2
        exact ⟨by rw [HN.out]; rfl, HW.out⟩
      · have HN : Hid (R = none) := HDec.out.trans (digs_no hv)
        clear hv hh HDec ha hacc
        have h95i : ((c.toNat : Int) == 95) = false := beq_eq_false_iff_ne.2 (by omega)
        have h48 : (48 : Int) ≤ (c.toNat : Int) := by omega
        have h57 : ¬ ((c.toNat : Int) ≤ 57) := by omega
        go_wp2_with (go_at_call 67; refine (lower_is hL _).mono ?_; rintro e w' ⟨rfl, rfl⟩)
        go_ret2
        exact ⟨by rw [HN.out]; rfl, HW.out⟩
      · have HN : Hid (R = none) := HDec.out.trans (digs_no hv)
        clear hv hh HDec ha hacc
        have h95i : ((c.toNat : Int) == 95) = false := beq_eq_false_iff_ne.2 (by omega)
        have h48 : (48 : Int) ≤ (c.toNat : Int) := by omega
        have h57 : ¬ ((c.toNat : Int) ≤ 57) := by omega
        go_wp2_with (go_at_call 67; refine (lower_is hL _).mono ?_; rintro e w' ⟨rfl, rfl⟩)
        go_ret2
        exact ⟨by rw [HN.out]; rfl, HW.out⟩
      · have HN : Hid (R = none) := HDec.out.trans (digs_no hv)
        clear hv hh HDec ha hacc
        have hc95 : (c.toNat : Int) = 95 := by omega
        rw [hc95] at hc
        clear hL l0 l1 hnd h95 hc256 hc95
        go_wp2_with (go_at_call 67; refine (lower_is (L := 127) (by decide) _).mono ?_; rintro e w' ⟨rfl, rfl⟩)
        go_ret2
        exact ⟨by rw [HN.out]; rfl, HW.out⟩
    · have HN : Hid (R = some acc) := by
        show R = some acc
        rw [hh.out.2.2, List.drop_eq_nil_of_le (by omega)]; rfl
      have HA := Lib.hid hh.out.1
      clear hh hR
      go_wp2
      go_ret2
      exact ⟨by rw [HN.out, HA.out]; rfl, HW.out⟩
end Go.Proofs.YtfodkkdggajjaaaGreatDoor

/-
  The shelf's layings at this dump: strings.Cut, Contains, Join, strconv.ParseUint, bits.TrailingZeros.
-/
namespace Go.Proofs.YtfodkkdggajjaaaGreatDoor
open Go.Shelf
def lays145_ren : Go.Shelf.Ren := ⟨fun | 145 => 10 | 220 => 21 | 219 => 33 | 217 => 48 | 225 => 49 | 224 => 50 | 267 => 51 | 266 => 63 | 314 => 64 | n => n, fun | 9 => 9 | 4 => 4 | 59 => 36 | 3 => 3 | 5 => 5 | 46 => 83 | 146 => 125 | 51 => 124 | n => n, fun | 1 => 1 | n => n⟩
theorem lays145 : Go.Proofs.Lays.n145 Tryz.prog lays145_ren := {
  mixed := by kernel_rfl
  f145 := Tryz.func10.trans (congrArg some (by kernel_rfl))
  f217 := Tryz.func48.trans (congrArg some (by kernel_rfl))
  f219 := Tryz.func33.trans (congrArg some (by kernel_rfl))
  f220 := Tryz.func21.trans (congrArg some (by kernel_rfl))
  f224 := Tryz.func50.trans (congrArg some (by kernel_rfl))
  f225 := Tryz.func49.trans (congrArg some (by kernel_rfl))
  f266 := Tryz.func63.trans (congrArg some (by kernel_rfl))
  f267 := Tryz.func51.trans (congrArg some (by kernel_rfl))
  f314 := Tryz.func64.trans (congrArg some (by kernel_rfl))
  t3 := Tryz.underlying3
  a3 := Tryz.isAgg3
  z3 := Tryz.sizeOf3
  v3 := Tryz.zeroValue3
  t4 := Tryz.underlying4
  a4 := Tryz.isAgg4
  z4 := Tryz.sizeOf4
  v4 := Tryz.zeroValue4
  t5 := Tryz.underlying5
  a5 := Tryz.isAgg5
  z5 := Tryz.sizeOf5
  v5 := Tryz.zeroValue5
  t9 := Tryz.underlying9
  a9 := Tryz.isAgg9
  z9 := Tryz.sizeOf9
  v9 := Tryz.zeroValue9
  t46 := Tryz.underlying83
  a46 := Tryz.isAgg83
  z46 := Tryz.sizeOf83
  v46 := Tryz.zeroValue83
  t51 := Tryz.underlying124
  a51 := Tryz.isAgg124
  z51 := Tryz.sizeOf124
  v51 := Tryz.zeroValue124
  t59 := Tryz.underlying36
  a59 := Tryz.isAgg36
  z59 := Tryz.sizeOf36
  v59 := Tryz.zeroValue36
  t146 := Tryz.underlying125
  a146 := Tryz.isAgg125
  z146 := Tryz.sizeOf125
  v146 := Tryz.zeroValue125
  g1 := by kernel_rfl }
def lays144_ren : Go.Shelf.Ren := ⟨fun | 144 => 22 | 143 => 34 | 219 => 33 | 217 => 48 | 225 => 49 | 224 => 50 | 267 => 51 | 266 => 63 | 314 => 64 | n => n, fun | 9 => 9 | 4 => 4 | 3 => 3 | 5 => 5 | 46 => 83 | 146 => 125 | 51 => 124 | n => n, fun | 1 => 1 | n => n⟩
theorem lays144 : Go.Proofs.Lays.n144 Tryz.prog lays144_ren := {
  mixed := by kernel_rfl
  f143 := Tryz.func34.trans (congrArg some (by kernel_rfl))
  f144 := Tryz.func22.trans (congrArg some (by kernel_rfl))
  f217 := Tryz.func48.trans (congrArg some (by kernel_rfl))
  f219 := Tryz.func33.trans (congrArg some (by kernel_rfl))
  f224 := Tryz.func50.trans (congrArg some (by kernel_rfl))
  f225 := Tryz.func49.trans (congrArg some (by kernel_rfl))
  f266 := Tryz.func63.trans (congrArg some (by kernel_rfl))
  f267 := Tryz.func51.trans (congrArg some (by kernel_rfl))
  f314 := Tryz.func64.trans (congrArg some (by kernel_rfl))
  t3 := Tryz.underlying3
  a3 := Tryz.isAgg3
  z3 := Tryz.sizeOf3
  v3 := Tryz.zeroValue3
  t4 := Tryz.underlying4
  a4 := Tryz.isAgg4
  z4 := Tryz.sizeOf4
  v4 := Tryz.zeroValue4
  t5 := Tryz.underlying5
  a5 := Tryz.isAgg5
  z5 := Tryz.sizeOf5
  v5 := Tryz.zeroValue5
  t9 := Tryz.underlying9
  a9 := Tryz.isAgg9
  z9 := Tryz.sizeOf9
  v9 := Tryz.zeroValue9
  t46 := Tryz.underlying83
  a46 := Tryz.isAgg83
  z46 := Tryz.sizeOf83
  v46 := Tryz.zeroValue83
  t51 := Tryz.underlying124
  a51 := Tryz.isAgg124
  z51 := Tryz.sizeOf124
  v51 := Tryz.zeroValue124
  t146 := Tryz.underlying125
  a146 := Tryz.isAgg125
  z146 := Tryz.sizeOf125
  v146 := Tryz.zeroValue125
  g1 := by kernel_rfl }
def lays156_ren : Go.Shelf.Ren := ⟨fun | 156 => 32 | 165 => 45 | 166 => 46 | 169 => 47 | 240 => 61 | 241 => 62 | 276 => 78 | 277 => 79 | n => n, fun | 31 => 61 | 9 => 9 | 3 => 3 | 4 => 4 | 0 => 0 | 20 => 20 | 72 => 103 | 76 => 105 | 70 => 100 | 37 => 101 | 75 => 26 | 127 => 123 | 164 => 90 | 5 => 5 | 80 => 107 | n => n, fun | n => n⟩
theorem lays156 : Go.Proofs.Lays.n156 Tryz.prog lays156_ren := {
  mixed := by kernel_rfl
  f156 := Tryz.func32.trans (congrArg some (by kernel_rfl))
  f165 := Tryz.func45.trans (congrArg some (by kernel_rfl))
  f166 := Tryz.func46.trans (congrArg some (by kernel_rfl))
  f169 := Tryz.func47.trans (congrArg some (by kernel_rfl))
  f240 := Tryz.func61.trans (congrArg some (by kernel_rfl))
  f241 := Tryz.func62.trans (congrArg some (by kernel_rfl))
  f276 := Tryz.func78.trans (congrArg some (by kernel_rfl))
  f277 := Tryz.func79.trans (congrArg some (by kernel_rfl))
  t0 := Tryz.underlying0
  a0 := Tryz.isAgg0
  z0 := Tryz.sizeOf0
  v0 := Tryz.zeroValue0
  t3 := Tryz.underlying3
  a3 := Tryz.isAgg3
  z3 := Tryz.sizeOf3
  v3 := Tryz.zeroValue3
  t4 := Tryz.underlying4
  a4 := Tryz.isAgg4
  z4 := Tryz.sizeOf4
  v4 := Tryz.zeroValue4
  t9 := Tryz.underlying9
  a9 := Tryz.isAgg9
  z9 := Tryz.sizeOf9
  v9 := Tryz.zeroValue9
  t20 := Tryz.underlying20
  a20 := Tryz.isAgg20
  z20 := Tryz.sizeOf20
  v20 := Tryz.zeroValue20
  t31 := Tryz.underlying61
  a31 := Tryz.isAgg61
  z31 := Tryz.sizeOf61
  v31 := Tryz.zeroValue61
  t37 := Tryz.underlying101
  a37 := Tryz.isAgg101
  z37 := Tryz.sizeOf101
  v37 := Tryz.zeroValue101
  t70 := Tryz.underlying100
  a70 := Tryz.isAgg100
  z70 := Tryz.sizeOf100
  v70 := Tryz.zeroValue100
  t72 := Tryz.underlying103
  a72 := Tryz.isAgg103
  z72 := Tryz.sizeOf103
  v72 := Tryz.zeroValue103
  t75 := Tryz.underlying26
  a75 := Tryz.isAgg26
  z75 := Tryz.sizeOf26
  v75 := Tryz.zeroValue26
  t76 := Tryz.underlying105
  a76 := Tryz.isAgg105
  z76 := Tryz.sizeOf105
  v76 := Tryz.zeroValue105
  t127 := Tryz.underlying123
  a127 := Tryz.isAgg123
  z127 := Tryz.sizeOf123
  v127 := Tryz.zeroValue123
  t164 := Tryz.underlying90
  a164 := Tryz.isAgg90
  z164 := Tryz.sizeOf90
  v164 := Tryz.zeroValue90 }
def lays14_ren : Go.Shelf.Ren := ⟨fun | 14 => 37 | 16 => 53 | 17 => 54 | 19 => 67 | 20 => 68 | 21 => 69 | 22 => 70 | 23 => 71 | 24 => 72 | 25 => 83 | 27 => 85 | 26 => 84 | 28 => 89 | 29 => 90 | 30 => 57 | 31 => 58 | 32 => 59 | 33 => 60 | 35 => 74 | 34 => 73 | 36 => 75 | 37 => 76 | 38 => 77 | 39 => 86 | 40 => 87 | n => n, fun | 9 => 9 | 3 => 3 | 22 => 67 | 24 => 26 | 25 => 84 | 4 => 4 | 34 => 128 | 5 => 5 | 36 => 83 | 37 => 101 | 0 => 0 | 39 => 130 | 21 => 21 | 44 => 144 | 47 => 123 | 50 => 149 | 48 => 147 | 2 => 2 | 52 => 118 | 55 => 121 | 59 => 134 | 60 => 124 | 20 => 20 | 61 => 135 | 65 => 150 | 66 => 151 | 67 => 107 | n => n, fun | 0 => 3 | 1 => 4 | 2 => 2 | 3 => 5 | 4 => 6 | n => n⟩
theorem lays14 : Go.Proofs.LaysPu.n14 Tryz.prog lays14_ren := {
  mixed := by kernel_rfl
  f14 := Tryz.func37.trans (congrArg some (by kernel_rfl))
  f16 := Tryz.func53.trans (congrArg some (by kernel_rfl))
  f17 := Tryz.func54.trans (congrArg some (by kernel_rfl))
  f19 := Tryz.func67.trans (congrArg some (by kernel_rfl))
  f20 := Tryz.func68.trans (congrArg some (by kernel_rfl))
  f21 := Tryz.func69.trans (congrArg some (by kernel_rfl))
  f22 := Tryz.func70.trans (congrArg some (by kernel_rfl))
  f23 := Tryz.func71.trans (congrArg some (by kernel_rfl))
  f24 := Tryz.func72.trans (congrArg some (by kernel_rfl))
  f25 := Tryz.func83.trans (congrArg some (by kernel_rfl))
  f26 := Tryz.func84.trans (congrArg some (by kernel_rfl))
  f27 := Tryz.func85.trans (congrArg some (by kernel_rfl))
  f28 := Tryz.func89.trans (congrArg some (by kernel_rfl))
  f29 := Tryz.func90.trans (congrArg some (by kernel_rfl))
  f30 := Tryz.func57.trans (congrArg some (by kernel_rfl))
  f31 := Tryz.func58.trans (congrArg some (by kernel_rfl))
  f32 := Tryz.func59.trans (congrArg some (by kernel_rfl))
  f33 := Tryz.func60.trans (congrArg some (by kernel_rfl))
  f34 := Tryz.func73.trans (congrArg some (by kernel_rfl))
  f35 := Tryz.func74.trans (congrArg some (by kernel_rfl))
  f36 := Tryz.func75.trans (congrArg some (by kernel_rfl))
  f37 := Tryz.func76.trans (congrArg some (by kernel_rfl))
  f38 := Tryz.func77.trans (congrArg some (by kernel_rfl))
  f39 := Tryz.func86.trans (congrArg some (by kernel_rfl))
  f40 := Tryz.func87.trans (congrArg some (by kernel_rfl))
  t0 := Tryz.underlying0
  a0 := Tryz.isAgg0
  z0 := Tryz.sizeOf0
  v0 := Tryz.zeroValue0
  i0 := by kernel_rfl
  t2 := Tryz.underlying2
  a2 := Tryz.isAgg2
  z2 := Tryz.sizeOf2
  v2 := Tryz.zeroValue2
  i2 := by kernel_rfl
  t3 := Tryz.underlying3
  a3 := Tryz.isAgg3
  z3 := Tryz.sizeOf3
  v3 := Tryz.zeroValue3
  i3 := by kernel_rfl
  t4 := Tryz.underlying4
  a4 := Tryz.isAgg4
  z4 := Tryz.sizeOf4
  v4 := Tryz.zeroValue4
  i4 := by kernel_rfl
  t5 := Tryz.underlying5
  a5 := Tryz.isAgg5
  z5 := Tryz.sizeOf5
  v5 := Tryz.zeroValue5
  i5 := by kernel_rfl
  t9 := Tryz.underlying9
  a9 := Tryz.isAgg9
  z9 := Tryz.sizeOf9
  v9 := Tryz.zeroValue9
  i9 := by kernel_rfl
  t20 := Tryz.underlying20
  a20 := Tryz.isAgg20
  z20 := Tryz.sizeOf20
  v20 := Tryz.zeroValue20
  i20 := by kernel_rfl
  t21 := Tryz.underlying21
  a21 := Tryz.isAgg21
  z21 := Tryz.sizeOf21
  v21 := Tryz.zeroValue21
  i21 := by kernel_rfl
  t22 := Tryz.underlying67
  a22 := Tryz.isAgg67
  z22 := Tryz.sizeOf67
  v22 := Tryz.zeroValue67
  i22 := by kernel_rfl
  t24 := Tryz.underlying26
  a24 := Tryz.isAgg26
  z24 := Tryz.sizeOf26
  v24 := Tryz.zeroValue26
  i24 := by kernel_rfl
  t25 := Tryz.underlying84
  a25 := Tryz.isAgg84
  z25 := Tryz.sizeOf84
  v25 := Tryz.zeroValue84
  i25 := by kernel_rfl
  t34 := Tryz.underlying128
  a34 := Tryz.isAgg128
  z34 := Tryz.sizeOf128
  v34 := Tryz.zeroValue128
  i34 := by kernel_rfl
  c34 := by kernel_rfl
  t36 := Tryz.underlying83
  a36 := Tryz.isAgg83
  z36 := Tryz.sizeOf83
  v36 := Tryz.zeroValue83
  i36 := by kernel_rfl
  t37 := Tryz.underlying101
  a37 := Tryz.isAgg101
  z37 := Tryz.sizeOf101
  v37 := Tryz.zeroValue101
  i37 := by kernel_rfl
  t39 := Tryz.underlying130
  a39 := Tryz.isAgg130
  z39 := Tryz.sizeOf130
  v39 := Tryz.zeroValue130
  i39 := by kernel_rfl
  t44 := Tryz.underlying144
  a44 := Tryz.isAgg144
  z44 := Tryz.sizeOf144
  v44 := Tryz.zeroValue144
  i44 := by kernel_rfl
  t47 := Tryz.underlying123
  a47 := Tryz.isAgg123
  z47 := Tryz.sizeOf123
  v47 := Tryz.zeroValue123
  i47 := by kernel_rfl
  t48 := Tryz.underlying147
  a48 := Tryz.isAgg147
  z48 := Tryz.sizeOf147
  v48 := Tryz.zeroValue147
  i48 := by kernel_rfl
  t50 := Tryz.underlying149
  a50 := Tryz.isAgg149
  z50 := Tryz.sizeOf149
  v50 := Tryz.zeroValue149
  i50 := by kernel_rfl
  t52 := Tryz.underlying118
  a52 := Tryz.isAgg118
  z52 := Tryz.sizeOf118
  v52 := Tryz.zeroValue118
  i52 := by kernel_rfl
  t55 := Tryz.underlying121
  a55 := Tryz.isAgg121
  z55 := Tryz.sizeOf121
  v55 := Tryz.zeroValue121
  i55 := by kernel_rfl
  t59 := Tryz.underlying134
  a59 := Tryz.isAgg134
  z59 := Tryz.sizeOf134
  v59 := Tryz.zeroValue134
  i59 := by kernel_rfl
  t60 := Tryz.underlying124
  a60 := Tryz.isAgg124
  z60 := Tryz.sizeOf124
  v60 := Tryz.zeroValue124
  i60 := by kernel_rfl
  t61 := Tryz.underlying135
  a61 := Tryz.isAgg135
  z61 := Tryz.sizeOf135
  t65 := Tryz.underlying150
  a65 := Tryz.isAgg150
  z65 := Tryz.sizeOf150
  v65 := Tryz.zeroValue150
  i65 := by kernel_rfl
  t66 := Tryz.underlying151
  a66 := Tryz.isAgg151
  z66 := Tryz.sizeOf151
  v66 := Tryz.zeroValue151
  i66 := by kernel_rfl
  t67 := Tryz.underlying107
  a67 := Tryz.isAgg107
  z67 := Tryz.sizeOf107
  v67 := Tryz.zeroValue107
  i67 := by kernel_rfl
  g0 := by kernel_rfl
  m0 := by kernel_rfl
  g1 := by kernel_rfl
  m1 := by kernel_rfl
  g2 := by kernel_rfl
  m2 := by kernel_rfl
  g3 := by kernel_rfl
  m3 := by kernel_rfl
  g4 := by kernel_rfl
  m4 := by kernel_rfl }
def lays27_ren : Go.Shelf.Ren := ⟨fun | 27 => 77 | 28 => 86 | 29 => 87 | n => n, fun | 25 => 83 | 3 => 3 | 27 => 124 | 22 => 67 | 4 => 4 | 53 => 150 | 0 => 0 | 5 => 5 | 54 => 151 | n => n, fun | 0 => 5 | 1 => 6 | n => n⟩
theorem lays27 : Go.Proofs.Lays7.n27 Tryz.prog lays27_ren := {
  mixed := by kernel_rfl
  f27 := Tryz.func77.trans (congrArg some (by kernel_rfl))
  f28 := Tryz.func86.trans (congrArg some (by kernel_rfl))
  f29 := Tryz.func87.trans (congrArg some (by kernel_rfl))
  t0 := Tryz.underlying0
  a0 := Tryz.isAgg0
  z0 := Tryz.sizeOf0
  v0 := Tryz.zeroValue0
  i0 := by kernel_rfl
  t3 := Tryz.underlying3
  a3 := Tryz.isAgg3
  z3 := Tryz.sizeOf3
  v3 := Tryz.zeroValue3
  i3 := by kernel_rfl
  t4 := Tryz.underlying4
  a4 := Tryz.isAgg4
  z4 := Tryz.sizeOf4
  v4 := Tryz.zeroValue4
  i4 := by kernel_rfl
  t5 := Tryz.underlying5
  a5 := Tryz.isAgg5
  z5 := Tryz.sizeOf5
  v5 := Tryz.zeroValue5
  i5 := by kernel_rfl
  t22 := Tryz.underlying67
  a22 := Tryz.isAgg67
  z22 := Tryz.sizeOf67
  v22 := Tryz.zeroValue67
  i22 := by kernel_rfl
  t25 := Tryz.underlying83
  a25 := Tryz.isAgg83
  z25 := Tryz.sizeOf83
  v25 := Tryz.zeroValue83
  i25 := by kernel_rfl
  t27 := Tryz.underlying124
  a27 := Tryz.isAgg124
  z27 := Tryz.sizeOf124
  v27 := Tryz.zeroValue124
  i27 := by kernel_rfl
  t53 := Tryz.underlying150
  a53 := Tryz.isAgg150
  z53 := Tryz.sizeOf150
  v53 := Tryz.zeroValue150
  i53 := by kernel_rfl
  t54 := Tryz.underlying151
  a54 := Tryz.isAgg151
  z54 := Tryz.sizeOf151
  g0 := by kernel_rfl
  g1 := by kernel_rfl }
end Go.Proofs.YtfodkkdggajjaaaGreatDoor

/-
  The shelf's layings at this dump: strings.SplitN, strconv.Itoa.
-/
namespace Go.Proofs.YtfodkkdggajjaaaGreatDoor
open Go.Shelf
def lays147_ren : Go.Shelf.Ren := ⟨fun | 147 => 35 | 221 => 52 | 268 => 65 | 138 => 66 | 143 => 34 | 195 => 80 | 197 => 81 | 218 => 82 | 219 => 33 | 260 => 88 | 217 => 48 | 225 => 49 | 224 => 50 | 267 => 51 | 266 => 63 | 314 => 64 | n => n, fun | 9 => 9 | 3 => 3 | 31 => 61 | 4 => 4 | 0 => 0 | 105 => 140 | 21 => 21 | 5 => 5 | 46 => 83 | 119 => 152 | 139 => 155 | 138 => 154 | 146 => 125 | 51 => 124 | n => n, fun | 1 => 1 | 3 => 7 | 4 => 8 | n => n⟩
theorem lays147 : Go.Proofs.Lays.n147 Tryz.prog lays147_ren := {
  mixed := by kernel_rfl
  f138 := Tryz.func66.trans (congrArg some (by kernel_rfl))
  f143 := Tryz.func34.trans (congrArg some (by kernel_rfl))
  f147 := Tryz.func35.trans (congrArg some (by kernel_rfl))
  f195 := Tryz.func80.trans (congrArg some (by kernel_rfl))
  f197 := Tryz.func81.trans (congrArg some (by kernel_rfl))
  f217 := Tryz.func48.trans (congrArg some (by kernel_rfl))
  f218 := Tryz.func82.trans (congrArg some (by kernel_rfl))
  f219 := Tryz.func33.trans (congrArg some (by kernel_rfl))
  f221 := Tryz.func52.trans (congrArg some (by kernel_rfl))
  f224 := Tryz.func50.trans (congrArg some (by kernel_rfl))
  f225 := Tryz.func49.trans (congrArg some (by kernel_rfl))
  f260 := Tryz.func88.trans (congrArg some (by kernel_rfl))
  f266 := Tryz.func63.trans (congrArg some (by kernel_rfl))
  f267 := Tryz.func51.trans (congrArg some (by kernel_rfl))
  f268 := Tryz.func65.trans (congrArg some (by kernel_rfl))
  f314 := Tryz.func64.trans (congrArg some (by kernel_rfl))
  t0 := Tryz.underlying0
  a0 := Tryz.isAgg0
  z0 := Tryz.sizeOf0
  v0 := Tryz.zeroValue0
  t3 := Tryz.underlying3
  a3 := Tryz.isAgg3
  z3 := Tryz.sizeOf3
  v3 := Tryz.zeroValue3
  t4 := Tryz.underlying4
  a4 := Tryz.isAgg4
  z4 := Tryz.sizeOf4
  v4 := Tryz.zeroValue4
  t5 := Tryz.underlying5
  a5 := Tryz.isAgg5
  z5 := Tryz.sizeOf5
  v5 := Tryz.zeroValue5
  t9 := Tryz.underlying9
  a9 := Tryz.isAgg9
  z9 := Tryz.sizeOf9
  v9 := Tryz.zeroValue9
  t21 := Tryz.underlying21
  a21 := Tryz.isAgg21
  z21 := Tryz.sizeOf21
  v21 := Tryz.zeroValue21
  t31 := Tryz.underlying61
  a31 := Tryz.isAgg61
  z31 := Tryz.sizeOf61
  v31 := Tryz.zeroValue61
  t46 := Tryz.underlying83
  a46 := Tryz.isAgg83
  z46 := Tryz.sizeOf83
  v46 := Tryz.zeroValue83
  t51 := Tryz.underlying124
  a51 := Tryz.isAgg124
  z51 := Tryz.sizeOf124
  v51 := Tryz.zeroValue124
  t105 := Tryz.underlying140
  a105 := Tryz.isAgg140
  z105 := Tryz.sizeOf140
  v105 := Tryz.zeroValue140
  t119 := Tryz.underlying152
  a119 := Tryz.isAgg152
  z119 := Tryz.sizeOf152
  t138 := Tryz.underlying154
  a138 := Tryz.isAgg154
  z138 := Tryz.sizeOf154
  v138 := Tryz.zeroValue154
  t139 := Tryz.underlying155
  a139 := Tryz.isAgg155
  z139 := Tryz.sizeOf155
  v139 := Tryz.zeroValue155
  t146 := Tryz.underlying125
  a146 := Tryz.isAgg125
  z146 := Tryz.sizeOf125
  v146 := Tryz.zeroValue125
  g1 := by kernel_rfl
  g3 := by kernel_rfl
  g4 := by kernel_rfl }
def lays171_ren : Go.Shelf.Ren := ⟨fun | 171 => 85 | 243 => 89 | 246 => 90 | 283 => 57 | 284 => 58 | 285 => 59 | 286 => 60 | 129 => 74 | 317 => 73 | 318 => 75 | 319 => 76 | 320 => 77 | 337 => 86 | 338 => 87 | n => n, fun | 3 => 3 | 9 => 9 | 2 => 2 | 4 => 4 | 171 => 118 | 0 => 0 | 53 => 67 | 37 => 101 | 5 => 5 | 173 => 121 | 212 => 134 | 51 => 124 | 20 => 20 | 213 => 135 | 46 => 83 | 232 => 150 | 233 => 151 | n => n, fun | 17 => 2 | 18 => 5 | 19 => 6 | n => n⟩
theorem lays171 : Go.Proofs.LaysM.n171 Tryz.prog lays171_ren := {
  mixed := by kernel_rfl
  f129 := Tryz.func74.trans (congrArg some (by kernel_rfl))
  f171 := Tryz.func85.trans (congrArg some (by kernel_rfl))
  f243 := Tryz.func89.trans (congrArg some (by kernel_rfl))
  f246 := Tryz.func90.trans (congrArg some (by kernel_rfl))
  f283 := Tryz.func57.trans (congrArg some (by kernel_rfl))
  f284 := Tryz.func58.trans (congrArg some (by kernel_rfl))
  f285 := Tryz.func59.trans (congrArg some (by kernel_rfl))
  f286 := Tryz.func60.trans (congrArg some (by kernel_rfl))
  f317 := Tryz.func73.trans (congrArg some (by kernel_rfl))
  f318 := Tryz.func75.trans (congrArg some (by kernel_rfl))
  f319 := Tryz.func76.trans (congrArg some (by kernel_rfl))
  f320 := Tryz.func77.trans (congrArg some (by kernel_rfl))
  f337 := Tryz.func86.trans (congrArg some (by kernel_rfl))
  f338 := Tryz.func87.trans (congrArg some (by kernel_rfl))
  t0 := Tryz.underlying0
  a0 := Tryz.isAgg0
  z0 := Tryz.sizeOf0
  v0 := Tryz.zeroValue0
  t2 := Tryz.underlying2
  a2 := Tryz.isAgg2
  z2 := Tryz.sizeOf2
  v2 := Tryz.zeroValue2
  t3 := Tryz.underlying3
  a3 := Tryz.isAgg3
  z3 := Tryz.sizeOf3
  v3 := Tryz.zeroValue3
  t4 := Tryz.underlying4
  a4 := Tryz.isAgg4
  z4 := Tryz.sizeOf4
  v4 := Tryz.zeroValue4
  t5 := Tryz.underlying5
  a5 := Tryz.isAgg5
  z5 := Tryz.sizeOf5
  v5 := Tryz.zeroValue5
  t9 := Tryz.underlying9
  a9 := Tryz.isAgg9
  z9 := Tryz.sizeOf9
  v9 := Tryz.zeroValue9
  t20 := Tryz.underlying20
  a20 := Tryz.isAgg20
  z20 := Tryz.sizeOf20
  v20 := Tryz.zeroValue20
  t37 := Tryz.underlying101
  a37 := Tryz.isAgg101
  z37 := Tryz.sizeOf101
  v37 := Tryz.zeroValue101
  t46 := Tryz.underlying83
  a46 := Tryz.isAgg83
  z46 := Tryz.sizeOf83
  v46 := Tryz.zeroValue83
  t51 := Tryz.underlying124
  a51 := Tryz.isAgg124
  z51 := Tryz.sizeOf124
  v51 := Tryz.zeroValue124
  t53 := Tryz.underlying67
  a53 := Tryz.isAgg67
  z53 := Tryz.sizeOf67
  v53 := Tryz.zeroValue67
  t171 := Tryz.underlying118
  a171 := Tryz.isAgg118
  z171 := Tryz.sizeOf118
  v171 := Tryz.zeroValue118
  t173 := Tryz.underlying121
  a173 := Tryz.isAgg121
  z173 := Tryz.sizeOf121
  v173 := Tryz.zeroValue121
  t212 := Tryz.underlying134
  a212 := Tryz.isAgg134
  z212 := Tryz.sizeOf134
  v212 := Tryz.zeroValue134
  t213 := Tryz.underlying135
  a213 := Tryz.isAgg135
  z213 := Tryz.sizeOf135
  t232 := Tryz.underlying150
  a232 := Tryz.isAgg150
  z232 := Tryz.sizeOf150
  v232 := Tryz.zeroValue150
  t233 := Tryz.underlying151
  a233 := Tryz.isAgg151
  z233 := Tryz.sizeOf151
  v233 := Tryz.zeroValue151
  g17 := by kernel_rfl
  g18 := by kernel_rfl
  g19 := by kernel_rfl
  i0 := by kernel_rfl
  i2 := by kernel_rfl
  i3 := by kernel_rfl
  i4 := by kernel_rfl
  i5 := by kernel_rfl
  i9 := by kernel_rfl
  i20 := by kernel_rfl
  i37 := by kernel_rfl
  i46 := by kernel_rfl
  i51 := by kernel_rfl
  i53 := by kernel_rfl
  i171 := by kernel_rfl
  i173 := by kernel_rfl
  i212 := by kernel_rfl
  i232 := by kernel_rfl
  i233 := by kernel_rfl
  m17 := by kernel_rfl
  m18 := by kernel_rfl
  m19 := by kernel_rfl }
end Go.Proofs.YtfodkkdggajjaaaGreatDoor

/-
  The document's number of layer 7, by its contract.
-/
namespace Go.Proofs.YtfodkkdggajjaaaGreatDoor
open Go.RowKit

theorem value7_any (b : UInt8) (w : World) :
    Calls Tryz.prog 39 #[.int .u8 (b.toNat : Int)] w fun e w' => e = .returned (.int .i64 (val b.toNat)) ∧ w = w' := by
  have h1 := b.toNat_lt
  obtain ⟨c, hc⟩ : ∃ c : Int, (b.toNat : Int) = c := ⟨_, rfl⟩
  rw [hc]
  have h0 : 0 ≤ c := by omega
  have h2 : c ≤ 255 := by omega
  clear hc h1
  go_enter Tryz.func39, Tryz.ntmps39
  go_wp2
  all_goals
    go_ret
    refine ⟨ret_int ?_, rfl⟩
    unfold val
    repeat' split
    all_goals omega
theorem value7_is {b : UInt8} {x : Int} (h : val b.toNat = x) (w : World) :
    Calls Tryz.prog 39 #[.int .u8 (b.toNat : Int)] w fun e w' => e = .returned (.int .i64 x) ∧ w = w' := h ▸ value7_any b w
/-- A number stops at 2^40. -/
def cap7 (n : Nat) : Nat := if 1099511627776 < n then 1099511627776 else n
def numI (s : List UInt8) : Int := match num7 s with
  | none => -1
  | some n => cap7 n
theorem cap7_le (n : Nat) : cap7 n ≤ 1099511627776 := by unfold cap7; split <;> omega
theorem cap7_step (v base d : Nat) (hb : 1 ≤ base) : cap7 (v * base + d) = cap7 (cap7 v * base + d) := by
  by_cases h : 1099511627776 < v
  · have h1 : v * 1 ≤ v * base := Nat.mul_le_mul_left _ hb
    have h2 : 1099511627776 * 1 ≤ 1099511627776 * base := Nat.mul_le_mul_left _ hb
    have e : cap7 v = 1099511627776 := by unfold cap7; rw [if_pos h]
    rw [e]
    unfold cap7
    split
    · split <;> omega
    · omega
  · have e : cap7 v = v := by unfold cap7; rw [if_neg h]
    rw [e]
theorem take_sub {l : List UInt8} {m k : Nat} (h : k < l.length) (hm : m ≤ k) : (l.drop m).take (k + 1 - m) = (l.drop m).take (k - m) ++ [l[k]] := by
  rw [show k + 1 - m = (k - m) + 1 by omega, List.take_succ_eq_append_getElem (by rw [List.length_drop]; omega)]
  congr 2
  rw [List.getElem_drop]
  congr 1
  omega
theorem digs_good {base v : Nat} {l : List UInt8} {b : UInt8} (h : digs base 0 l = some v) (h0 : 0 ≤ val b.toNat) (h1 : val b.toNat < base) : digs base 0 (l ++ [b]) = some (v * base + (val b.toNat).toNat) := by
  rw [digs_append, h]
  show digs base v [b] = _
  unfold digs
  rw [if_pos ⟨h0, h1⟩]
  rfl
theorem digs_bad {base v : Nat} {l : List UInt8} {b : UInt8} (h : digs base 0 l = some v) (h0 : ¬ (0 ≤ val b.toNat ∧ val b.toNat < base)) (r : List UInt8) : digs base 0 ((l ++ [b]) ++ r) = none := by
  rw [digs_append, digs_append, h]
  show (digs base v [b]).bind _ = none
  have : digs base v [b] = none := by unfold digs; rw [if_neg h0]
  rw [this]
  rfl
theorem num7_of {s t : List UInt8} {base : Nat} (hs : s ≠ []) (hb : base7 s = (base, t)) : num7 s = digs base 0 t := by
  unfold num7
  rw [if_neg hs, hb]
theorem val_le (b : UInt8) : -1 ≤ val b.toNat ∧ val b.toNat ≤ 15 := by
  unfold val
  repeat' split
  all_goals omega
theorem base_a {s : ByteArray} (h : 1 < s.size) (h0 : (s[0]'(by omega)).toNat = 48) (h1 : (s[1]'h).toNat = 120 ∨ (s[1]'h).toNat = 88) : base7 s.data.toList = (16, s.data.toList.drop 2) := by
  obtain ⟨x, y, t, e⟩ : ∃ x y t, s.data.toList = x :: y :: t := by
    match hl : s.data.toList with
    | [] => have : s.data.toList.length = s.size := by simp
            rw [hl] at this; simp at this; omega
    | [_] => have : s.data.toList.length = s.size := by simp
             rw [hl] at this; simp at this; omega
    | x :: y :: t => exact ⟨x, y, t, rfl⟩
  have e0 : s[0]'(by omega) = x := by
    have : s.data.toList[0]? = some x := by rw [e]; rfl
    have h2 : s.data.toList[0]? = some (s[0]'(by omega)) := by rw [Array.getElem?_toList]; exact Array.getElem?_eq_getElem _
    exact Option.some.inj (h2.symm.trans this)
  have e1 : s[1]'h = y := by
    have : s.data.toList[1]? = some y := by rw [e]; rfl
    have h2 : s.data.toList[1]? = some (s[1]'h) := by rw [Array.getElem?_toList]; exact Array.getElem?_eq_getElem _
    exact Option.some.inj (h2.symm.trans this)
  rw [e0] at h0
  rw [e1] at h1
  have hx : x = 48 := UInt8.toNat_inj.1 h0
  have hy : y = 120 ∨ y = 88 := h1.elim (fun h => .inl (UInt8.toNat_inj.1 h)) (fun h => .inr (UInt8.toNat_inj.1 h))
  rw [e, hx]
  show (if y = 120 ∨ y = 88 then (16, t) else (8, y :: t)) = _
  rw [if_pos hy]
  rfl
theorem base_b {s : ByteArray} (h : 1 < s.size) (h0 : (s[0]'(by omega)).toNat = 48) (h1 : ¬ ((s[1]'h).toNat = 120 ∨ (s[1]'h).toNat = 88)) : base7 s.data.toList = (8, s.data.toList.drop 1) := by
  obtain ⟨x, y, t, e⟩ : ∃ x y t, s.data.toList = x :: y :: t := by
    match hl : s.data.toList with
    | [] => have : s.data.toList.length = s.size := by simp
            rw [hl] at this; simp at this; omega
    | [_] => have : s.data.toList.length = s.size := by simp
             rw [hl] at this; simp at this; omega
    | x :: y :: t => exact ⟨x, y, t, rfl⟩
  have e0 : s[0]'(by omega) = x := by
    have : s.data.toList[0]? = some x := by rw [e]; rfl
    have h2 : s.data.toList[0]? = some (s[0]'(by omega)) := by rw [Array.getElem?_toList]; exact Array.getElem?_eq_getElem _
    exact Option.some.inj (h2.symm.trans this)
  have e1 : s[1]'h = y := by
    have : s.data.toList[1]? = some y := by rw [e]; rfl
    have h2 : s.data.toList[1]? = some (s[1]'h) := by rw [Array.getElem?_toList]; exact Array.getElem?_eq_getElem _
    exact Option.some.inj (h2.symm.trans this)
  rw [e0] at h0
  rw [e1] at h1
  have hx : x = 48 := UInt8.toNat_inj.1 h0
  have hy : ¬ (y = 120 ∨ y = 88) := fun h => h1 (h.elim (fun h => .inl (by rw [h]; rfl)) (fun h => .inr (by rw [h]; rfl)))
  rw [e, hx]
  show (if y = 120 ∨ y = 88 then (16, t) else (8, y :: t)) = _
  rw [if_neg hy]
  rfl
theorem base_c {s : ByteArray} (h : s.size = 1 ∨ ∃ h : 0 < s.size, ¬ (s[0]'h).toNat = 48) : base7 s.data.toList = (10, s.data.toList.drop 0) := by
  rw [List.drop_zero]
  match hl : s.data.toList with
  | [] => rfl
  | [x] => unfold base7; split
           · rename_i e; cases e
           · rfl
  | x :: y :: t =>
    have hlen : s.data.toList.length = s.size := by simp
    rcases h with h | ⟨h, h0⟩
    · rw [hl] at hlen; simp at hlen; omega
    · have : s.data.toList[0]? = some x := by rw [hl]; rfl
      have h2 : s.data.toList[0]? = some (s[0]'h) := by rw [Array.getElem?_toList]; exact Array.getElem?_eq_getElem _
      have e0 : s[0]'h = x := Option.some.inj (h2.symm.trans this)
      rw [e0] at h0
      unfold base7
      split
      · rename_i e
        cases e
        exact absurd rfl h0
      · rfl

end Go.Proofs.YtfodkkdggajjaaaGreatDoor

/-
  Words for the errors of package fail: chains of wrapped errors in memory, and slices of strings.
-/
namespace Go.Proofs.YtfodkkdggajjaaaGreatDoor
open Go.RowKit

/-- An error value that is 'cs' wrapped round an end (the outermost call first): a number, or nothing. -/
def Chain (w : World) : List ByteArray → Option Int → Value → Prop
  | [], some n, v => v = .iface 31 (.int .i64 n)
  | [], none, v => v = .nilIface
  | c :: cs, o, v => ∃ b v', v = .iface 86 (.pointer (some ⟨b, 0, none⟩)) ∧ b < w.heap.size ∧
      w.cell? ⟨b, 0, none⟩ = some (.string c) ∧ w.cell? ⟨b, 1, none⟩ = some v' ∧ Chain w cs o v'

theorem Chain.below {w w' : World} (hb : Below w.heap.size w w') : ∀ {cs : List ByteArray} {o : Option Int} {v : Value}, Chain w cs o v → Chain w' cs o v
  | [], some _, _, h => h
  | [], none, _, h => h
  | _ :: _, _, _, ⟨b, v', e, hl, h0, h1, h2⟩ =>
    ⟨b, v', e, Nat.lt_of_lt_of_le hl hb.size, (hb.cell (p := ⟨b, 0, none⟩) hl).trans h0, (hb.cell (p := ⟨b, 1, none⟩) hl).trans h1, Chain.below hb h2⟩

/-- A slice of strings that reads as a list; nil let in. -/
def Strs (w : World) (A : Option Addr) (ss : List ByteArray) : Prop :=
  ∀ i s, ss[i]? = some s → ∃ b off, A = some ⟨b, off, none⟩ ∧ b < w.heap.size ∧ w.cell? ⟨b, off + i, none⟩ = some (.string s)

theorem Strs.below {w w' : World} {A : Option Addr} {ss : List ByteArray} (h : Strs w A ss) (hb : Below w.heap.size w w') : Strs w' A ss := by
  intro i s hs
  obtain ⟨b, off, e, hl, hc⟩ := h i s hs
  exact ⟨b, off, e, Nat.lt_of_lt_of_le hl hb.size, (hb.cell (p := ⟨b, off + i, none⟩) hl).trans hc⟩

theorem bytes_same {a b : ByteArray} (h : a = b) : (a.toList == b.toList) = true := by rw [h]; simp
theorem bytes_other {a b : ByteArray} (h : a ≠ b) : (a.toList == b.toList) = false := by
  rw [beq_eq_false_iff_ne, ByteArray.toList_eq, ByteArray.toList_eq]
  exact fun e => h (WideShapes.bytes_inj e)

/-- 20 texts of 60 bytes at most. -/
def few (ss : List ByteArray) : Bool := decide (ss.length ≤ 20) && (ss.take 21).all fun s => decide (s.size ≤ 60)

theorem few_false_long {ss : List ByteArray} (h : ¬ ss.length ≤ 20) : few ss = false := by simp [few]; omega
theorem few_false_at {ss : List ByteArray} {k : Nat} (hk : k < ss.length) (h21 : k < 21) (h : 60 < ss[k].size) : few ss = false := by
  simp only [few, Bool.and_eq_false_iff]
  right
  rw [List.all_eq_false]
  refine ⟨ss[k], ?_, by simp; omega⟩
  rw [List.mem_iff_getElem]
  exact ⟨k, by simp; omega, by simp⟩
theorem few_true {ss : List ByteArray} (hl : ss.length ≤ 20) (h : ∀ j, (hj : j < ss.length) → ss[j].size ≤ 60) : few ss = true := by
  simp only [few, Bool.and_eq_true, decide_eq_true_eq, List.all_eq_true]
  refine ⟨hl, fun s hs => ?_⟩
  obtain ⟨j, hj, rfl⟩ := List.mem_iff_getElem.1 (List.mem_of_mem_take hs)
  exact h j hj
theorem few_len {ss : List ByteArray} (h : few ss = true) : ss.length ≤ 20 := by
  simp only [few, Bool.and_eq_true, decide_eq_true_eq] at h; exact h.1
theorem few_size {ss : List ByteArray} (h : few ss = true) : ∀ s ∈ ss, s.size ≤ 60 := by
  have hl := few_len h
  simp only [few, Bool.and_eq_true, decide_eq_true_eq, List.all_eq_true] at h
  intro s hs
  exact h.2 s (by rw [List.take_of_length_le (by omega)]; exact hs)

end Go.Proofs.YtfodkkdggajjaaaGreatDoor

/-
  The document's Split and parts of layer 7, by their contracts.
-/
namespace Go.Proofs.YtfodkkdggajjaaaGreatDoor
open Go.RowKit

/-- A text of bytes. -/
def btx (l : List UInt8) : ByteArray := ⟨l.toArray⟩
theorem btx_toList (l : List UInt8) : (btx l).data.toList = l := rfl
theorem btx_of (s : ByteArray) : btx s.data.toList = s := rfl
theorem btx_size (l : List UInt8) : (btx l).size = l.length := by show l.toArray.size = _; simp
/-- A slice of texts that the call made. -/
def MadeS (B : Nat) (w : World) (v : Value) (ps : List (List UInt8)) : Prop := w.ownsRow B 9 1 v ps.length (ps.map fun p => Value.string (btx p))
theorem Tryz.infoS : (Tryz.prog.info? 9).map (fun i => (i.zero, i.size, i.bytes)) = some (some (.string ⟨#[]⟩), 1, 16) := by kernel_rfl
theorem MadeS.strs {B : Nat} {w : World} {v : Value} {ps : List (List UInt8)} (h : MadeS B w v ps) : ∃ A c, v = .slice A ps.length c ∧ ps.length ≤ c ∧ Strs w A (ps.map btx) := by
  have h' : w.ownsRow B 9 1 v ps.length (ps.map fun p => Value.string (btx p)) := h
  rcases h.2 with ⟨rfl, h0⟩ | ⟨g, cap, cur, rfl, hh⟩
  · obtain rfl := List.eq_nil_of_length_eq_zero h0
    exact ⟨none, 0, rfl, Nat.le_refl _, fun i s hs => by simp at hs⟩
  · refine ⟨_, _, rfl, hh.2.2.1, fun i s hs => ?_⟩
    have hi : i < ps.length := by have := (List.getElem?_eq_some_iff.1 hs).1; simpa using this
    have hc := h'.cellAt (g := g) i (by simpa using hi)
    refine ⟨g, 0, rfl, (Array.getElem?_eq_some_iff.1 hh.2.1).1, ?_⟩
    rw [Nat.zero_add, hc, List.getElem?_map]
    rw [List.getElem?_map] at hs
    obtain ⟨p, hp, rfl⟩ := Option.map_eq_some_iff.1 hs
    rw [hp]; rfl
theorem MadeS.below {B : Nat} {w w' : World} {v : Value} {ps : List (List UInt8)} (h : MadeS B w v ps) (hb : Below w.heap.size w w') : MadeS B w' v ps := own_below h hb
theorem drop_seg {l : List UInt8} {f k : Nat} (hf : f ≤ k) : l.drop f = (l.drop f).take (k - f) ++ l.drop k := by
  conv => lhs; rw [← List.take_append_drop (k - f) (l.drop f)]
  rw [List.drop_drop]
  congr 2
  omega
theorem extract_btx (s : ByteArray) (f k : Nat) : s.extract f k = btx ((s.data.toList.drop f).take (k - f)) := by
  apply ByteArray.ext
  show (s.extract f k).data = _
  rw [ByteArray.data_extract]
  apply Array.toList_inj.1
  show _ = (s.data.toList.drop f).take (k - f)
  rw [Array.toList_extract]

theorem cut7_here {c : UInt8} {l : List UInt8} {f k : Nat} (hf : f ≤ k) (hk : k < l.length) (hc : l[k] = c) (hno : ∀ b ∈ (l.drop f).take (k - f), b ≠ c) : cut7 c (l.drop f) = (l.drop f).take (k - f) :: cut7 c (l.drop (k + 1)) := by
  have h := drop_seg (l := l) hf
  rw [List.drop_eq_getElem_cons hk, hc] at h
  conv => lhs; rw [h]
  rw [cut7_seg hno]
/-- 'append(v, t)' of one text, v a slice of texts of the call's own. -/
theorem append_text {ops : Array Oper} {rest : List Oper} {o : Oper} {a : Act} {Q : Exit → Act → World → Prop} {w0 : World} (hgd : o.guard = none) (s x : Operand)
    (ho : o.op = .call { callee := .builtin .append, args := #[s, x], argTypes := #[61, 61] })
    (B : Nat) (v : Value) (ps : List (List UInt8)) (p : List UInt8) (t : ByteArray) (ht : t = btx p) (hs : a.eval s = v) (hx : a.eval x = .slice (some ⟨w0.heap.size, 0, none⟩) 1 1) (h1 : MadeS B w0 v ps)
    (hl : ps.length ≤ 20000) (hB : B ≤ w0.heap.size)
    (h : ∀ v' w', MadeS B w' v' (ps ++ [p]) → Below B w0 w' → wpList Tryz.prog ops Q rest (a.put o.dst v') w') : wpList Tryz.prog ops Q (o :: rest) a (w0.alloc (.cells #[.string t] 9)) := by
  obtain ⟨i0, hi, hz0, hz1, hz2⟩ := info_parts Tryz.infoS
  refine wpList_append_own _ hgd s x _ ho B 9 i0 _ 1 16 Tryz.underlying61 hi hz0 hz1 hz2 rfl (by decide) v _ _ hs (h1.alloc _) ⟨w0.heap.size, 0, none⟩ 1 1 [.string t] hx rfl (cell_one_new _ _ _) (by simp [Value.oneCell']) (by simp only [maxLen]; omega) (by omega) (by simp; omega) (fun v' w' hown hg _ => h v' w' ?_ ?_)
  · show w'.ownsRow B 9 1 v' _ _
    subst ht
    rw [List.length_append, List.map_append]; exact hown
  · exact ((Below.refl B w0).alloc hB _).grown hg (by simp; omega) (own_ge (show w0.ownsRow B 9 1 v _ _ from h1))

def SplitPost7 (ps : List (List UInt8)) (w : World) (e : Ending) (w' : World) : Prop := ∃ v, e = .returned v ∧ MadeS w.heap.size w' v ps ∧ Below w.heap.size w w'

set_option maxHeartbeats 2000000 in
set_option maxRecDepth 100000 in
theorem split7_any (s : ByteArray) (c : UInt8) (w : World) (hs : s.size ≤ 10000) :
    Calls Tryz.prog 26 #[.string s, .int .u8 (c.toNat : Int)] w (SplitPost7 (cut7 c s.data.toList) w) := by
  have HSl : Hid (s.data.toList.length = s.size) := by show s.data.toList.length = s.size; simp
  go_enter Tryz.func26, Tryz.ntmps26
  go_wp2
  go_loopw [5, 6, 7] (fun v5 v6 v7 wr => ∃ (k f : Nat) (out : List (List UInt8)), f ≤ k ∧ k ≤ s.size + 1 ∧ v7 = .int .i64 k ∧ v6 = .int .i64 f ∧ MadeS w.heap.size wr v5 out ∧ Below w.heap.size w wr ∧ out.length ≤ k ∧
    ((k ≤ s.size ∧ cut7 c s.data.toList = out ++ cut7 c (s.data.toList.drop f) ∧ ∀ b ∈ (s.data.toList.drop f).take (k - f), b ≠ c) ∨ (k = s.size + 1 ∧ cut7 c s.data.toList = out))) (fun _ _ v7 _ => s.size + 1 - (intOf v7).toNat)
  case atStart => exact ⟨0, 0, [], Nat.le_refl _, by omega, rfl, rfl, World.ownsRow_nil _ _ _ _, Below.refl _ _, Nat.le_refl _, .inl ⟨by omega, rfl, by simp⟩⟩
  case round =>
    obtain ⟨k, f, out, hf, hk, rfl, rfl, hm, hb, ho, hcase⟩ := hrel
    have HM := Lib.hid (And.intro hm hb)
    have hsz := hb.size
    clear hm hb
    rcases hcase with ⟨hks, hcut, hno⟩ | ⟨hks, hcut⟩
    · have HC := Lib.hid (And.intro hcut hno)
      have HX := Lib.hid (extract_btx s f k)
      clear hcut hno
      by_cases hlt : k < s.size
      · have hlen : k < s.data.toList.length := by rw [HSl.out]; exact hlt
        have hge : s.data.toList[k] = s[k]'hlt := by simp; rfl
        have hki : ((k : Int) == (s.size : Int)) = false := beq_eq_false_iff_ne.2 (by omega)
        by_cases hc : s[k]'hlt = c
        · have HE : Hid (cut7 c s.data.toList = (out ++ [(s.data.toList.drop f).take (k - f)]) ++ cut7 c (s.data.toList.drop (k + 1))) := by
            show cut7 c s.data.toList = (out ++ [(s.data.toList.drop f).take (k - f)]) ++ cut7 c (s.data.toList.drop (k + 1))
            rw [HC.out.1, cut7_here hf hlen (hge.trans hc) HC.out.2]
            simp
          have hc0 : (((s[k]'hlt).toNat : Int) == (c.toNat : Int)) = true := by rw [hc]; simp
          clear hlen hge hc HC
          go_wp2_with (at_builtin
                       refine append_text rfl (.tmp 25) (.tmp 30) rfl w.heap.size _ out ((s.data.toList.drop f).take (k - f)) _ HX.out rfl rfl HM.out.1 (by omega) hsz ?_
                       intro v1 w1 hm1 hb1
                       have HM1 := Lib.hid (And.intro hm1 (HM.out.2.trans hb1))
                       clear hm1 hb1)
          go_roundw
          case rel => exact ⟨k + 1, k + 1, _, Nat.le_refl _, by omega, by go_num, by go_num, HM1.out.1, HM1.out.2, by simp; omega, .inl ⟨by omega, HE.out, by simp⟩⟩
          case measure => simp [intOf]; omega
        · have HN : Hid (∀ b ∈ (s.data.toList.drop f).take (k + 1 - f), b ≠ c) := by
            intro b hb
            rw [take_sub hlen hf, hge] at hb
            rcases List.mem_append.1 hb with hb | hb
            · exact HC.out.2 b hb
            · rw [List.mem_singleton] at hb; subst hb; exact hc
          have hc0 : (((s[k]'hlt).toNat : Int) == (c.toNat : Int)) = false := beq_eq_false_iff_ne.2 (fun e => hc (UInt8.toNat_inj.1 (by omega)))
          clear hlen hge hc
          go_wp2
          go_roundw
          case rel => exact ⟨k + 1, f, out, by omega, by omega, by go_num, rfl, HM.out.1, HM.out.2, by omega, .inl ⟨by omega, HC.out.1, HN.out⟩⟩
          case measure => simp [intOf]; omega
      · obtain rfl : k = s.size := by omega
        have HE : Hid (cut7 c s.data.toList = out ++ [(s.data.toList.drop f).take (s.size - f)]) := by
          show cut7 c s.data.toList = out ++ [(s.data.toList.drop f).take (s.size - f)]
          have h2 := HC.out.2
          have ht : (s.data.toList.drop f).take (s.size - f) = s.data.toList.drop f := List.take_of_length_le (by rw [List.length_drop, HSl.out]; omega)
          rw [ht] at h2 ⊢
          rw [HC.out.1, cut7_end h2]
        clear HC hlt hk hks
        go_wp2_with (at_builtin
                     refine append_text rfl (.tmp 25) (.tmp 30) rfl w.heap.size _ out ((s.data.toList.drop f).take (s.size - f)) _ HX.out rfl rfl HM.out.1 (by omega) hsz ?_
                     intro v1 w1 hm1 hb1
                     have HM1 := Lib.hid (And.intro hm1 (HM.out.2.trans hb1))
                     clear hm1 hb1)
        go_roundw
        case rel => exact ⟨s.size + 1, s.size + 1, _, Nat.le_refl _, by omega, by go_num, by go_num, HM1.out.1, HM1.out.2, by simp; omega, .inr ⟨rfl, HE.out⟩⟩
        case measure => simp [intOf]
    · have HE := Lib.hid hcut
      clear hcut
      go_wp2
      go_ret
      exact ⟨_, rfl, by rw [HE.out]; exact HM.out.1, HM.out.2⟩

theorem btx_tl (x : List UInt8) : (btx x).toList = x := by rw [ByteArray.toList_eq]; rfl
theorem btx_empty : (btx []).toList.isEmpty = true := by rw [btx_tl]; rfl
theorem btx_full {x : List UInt8} (h : x ≠ []) : (btx x).toList.isEmpty = false := by
  rw [btx_tl]
  cases x with
  | nil => exact absurd rfl h
  | cons a l => rfl
theorem strs_at {w : World} {A : Option Addr} {ps : List (List UInt8)} (h : Strs w A (ps.map btx)) {i : Nat} {p : List UInt8} (hp : ps[i]? = some p) : ∃ b off, A = some ⟨b, off, none⟩ ∧ b < w.heap.size ∧ w.cell? ⟨b, off + i, none⟩ = some (.string (btx p)) :=
  h i (btx p) (by rw [List.getElem?_map, hp]; rfl)
def PartsPost (ps : List (List UInt8)) (w : World) (e : Ending) (w' : World) : Prop := ∃ A c, e = .returned (.slice A ps.length c) ∧ ps.length ≤ c ∧ Strs w' A (ps.map btx) ∧ Below w.heap.size w w'
theorem Strs.take7 {w : World} {A : Option Addr} {ss : List ByteArray} (h : Strs w A ss) (k : Nat) : Strs w A (ss.take k) := by
  intro i c hc
  refine h i c ?_
  rw [List.getElem?_take] at hc
  split at hc
  · exact hc
  · cases hc

end Go.Proofs.YtfodkkdggajjaaaGreatDoor

/-
  strings.SplitN at a dot and five parts at most: by the shelf's contract, without what the longer signs ask for.
-/
namespace Go.Proofs.YtfodkkdggajjaaaGreatDoor
open Go.RowKit

theorem ib_facts (l : List UInt8) (c : UInt8) : (Lib.indexByte l c = -1 ∧ ∀ b ∈ l, b ≠ c) ∨ ∃ i : Nat, Lib.indexByte l c = i ∧ i < l.length ∧ (∀ b ∈ l.take i, b ≠ c) ∧ l.drop i = c :: l.drop (i + 1) := by
  induction l with
  | nil => exact .inl ⟨rfl, by simp⟩
  | cons b l ih =>
    by_cases hb : b = c
    · subst hb
      refine .inr ⟨0, by simp [Lib.indexByte], by simp, by simp, by simp⟩
    · have e : Lib.indexByte (b :: l) c = if Lib.indexByte l c == -1 then -1 else Lib.indexByte l c + 1 := by
        rw [Lib.indexByte, if_neg (by simpa using hb)]
      rcases ih with ⟨h1, h2⟩ | ⟨i, h1, h2, h3, h4⟩
      · refine .inl ⟨by rw [e, h1]; rfl, fun x hx => ?_⟩
        rcases List.mem_cons.1 hx with rfl | hx
        · exact hb
        · exact h2 x hx
      · refine .inr ⟨i + 1, ?_, by simp; omega, fun x hx => ?_, by simpa using h4⟩
        · rw [e, h1, if_neg (by simp)]; rfl
        · rw [List.take_succ_cons] at hx
          rcases List.mem_cons.1 hx with rfl | hx
          · exact hb
          · exact h3 x hx
theorem spl_cut (k : Nat) (l : List UInt8) : (Lib.splitK [46] 0 k l).length = min (k + 1) (cut7 46 l).length ∧ ((cut7 46 l).length ≤ k + 1 → Lib.splitK [46] 0 k l = cut7 46 l) := by
  induction k generalizing l with
  | zero =>
    have hp : 1 ≤ (cut7 46 l).length := by
      have := cut7_ne 46 l
      cases h : cut7 46 l with
      | nil => exact absurd h this
      | cons _ _ => simp
    refine ⟨by simp [Lib.splitK]; omega, fun h => ?_⟩
    rcases ib_facts l 46 with ⟨_, h2⟩ | ⟨i, h1, h2, h3, h4⟩
    · rw [cut7_end h2]; rfl
    · have e : l = l.take i ++ 46 :: l.drop (i + 1) := by rw [← h4, List.take_append_drop]
      have e2 : cut7 46 l = l.take i :: cut7 46 (l.drop (i + 1)) := by
        have := cut7_seg h3 (l.drop (i + 1))
        rw [← e] at this
        exact this
      rw [e2] at h
      have := cut7_ne 46 (l.drop (i + 1))
      cases h5 : cut7 46 (l.drop (i + 1)) with
      | nil => exact absurd h5 this
      | cons _ _ => rw [h5] at h; simp at h
  | succ k ih =>
    rcases ib_facts l 46 with ⟨h1, h2⟩ | ⟨i, h1, h2, h3, h4⟩
    · have e : Lib.splitK [46] 0 (k + 1) l = [l] := by
        unfold Lib.splitK
        rw [Lib.index_one, h1]; rfl
      rw [e, cut7_end h2]
      exact ⟨by simp, fun _ => rfl⟩
    · have e : l = l.take i ++ 46 :: l.drop (i + 1) := by rw [← h4, List.take_append_drop]
      have e2 : cut7 46 l = l.take i :: cut7 46 (l.drop (i + 1)) := by
        have := cut7_seg h3 (l.drop (i + 1))
        rw [← e] at this
        exact this
      have e3 : Lib.splitK [46] 0 (k + 1) l = l.take i :: Lib.splitK [46] 0 k (l.drop (i + 1)) := by
        rw [Lib.splitK, Lib.index_one, h1, if_neg (by simp)]
        simp
      obtain ⟨a, b⟩ := ih (l.drop (i + 1))
      rw [e2, e3]
      refine ⟨by simp; omega, fun h => ?_⟩
      rw [b (by simpa using h)]
/-- What SplitN gives. -/
def spl5 (l : List UInt8) : List (List UInt8) := Lib.splitK [46] 0 (min 5 (l.length + 1) - 1) l
theorem spl5_few {l : List UInt8} (h : (cut7 46 l).length ≤ 4) : spl5 l = cut7 46 l := by
  have := cut7_length 46 l
  exact (spl_cut _ l).2 (by omega)
theorem spl5_many {l : List UInt8} (h : ¬ (cut7 46 l).length ≤ 4) : (spl5 l).length = 5 := by
  have h1 := cut7_length 46 l
  have h2 := (spl_cut (min 5 (l.length + 1) - 1) l).1
  show (Lib.splitK [46] 0 (min 5 (l.length + 1) - 1) l).length = 5
  omega
theorem btx_data (s : ByteArray) : btx s.data.toList = s := rfl
theorem spl5_bytes (s : ByteArray) : Lib.splitB ⟨#[46]⟩ 0 (min 5 (s.size + 1) - 1) s = (spl5 s.data.toList).map btx := by
  have h := Lib.splitB_data ⟨#[46]⟩ 0 (min 5 (s.size + 1) - 1) s
  have e : spl5 s.data.toList = (Lib.splitB ⟨#[46]⟩ 0 (min 5 (s.size + 1) - 1) s).map (·.data.toList) := by
    rw [h]
    show Lib.splitK [46] 0 _ _ = _
    have : s.data.toList.length = s.size := by simp
    rw [this]
  rw [e, List.map_map]
  conv => lhs; rw [← List.map_id (Lib.splitB ⟨#[46]⟩ 0 (min 5 (s.size + 1) - 1) s)]
  refine List.map_congr_left fun x _ => ?_
  exact (btx_data x).symm

set_option maxHeartbeats 1000000 in
theorem zsplit_any (s : ByteArray) (w : World) (hs : s.size ≤ 10000) :
    Calls Tryz.prog 35 #[.string s, .string ⟨#[46]⟩, .int .i64 5] w (PartsPost (spl5 s.data.toList) w) := by
  have HG : Hid (Calls Tryz.prog 52 #[.string s, .string ⟨#[46]⟩, .int .i64 0, .int .i64 5] w (PartsPost (spl5 s.data.toList) w)) := by
    show Calls _ _ _ _ _
    refine (Any.strings_genSplit_core (ρ := lays147_ren) { lays147 with } (by kernel_rfl) s ⟨#[46]⟩ 0 5 (min 5 (s.size + 1)) w (by omega) (by decide) (by omega)
      (fun x c hx => ?_) ?_ (by decide) (by decide) (by rw [if_neg (by decide)]; omega)).mono ?_
    · refine (Any.strings_Index_one (ρ := lays147_ren) { lays147 with } x 46 _).mono fun e w' ⟨he, hw⟩ => ⟨?_, hw⟩
      rw [he]
      show _ = Ending.returned (.int .i64 (Lib.index x.data.toList [46]))
      rw [Lib.index_one]
    · refine (Any.strings_Count_one (ρ := lays147_ren) { lays147 with } s 46 w).mono fun e w' ⟨he, hw⟩ => ⟨?_, hw⟩
      rw [he]
      show _ = Ending.returned (Value.int .i64 ((Lib.count s.data.toList [46] : Nat) : Int))
      rw [Lib.count_one]
      rfl
    · rintro e w' ⟨rfl, rfl⟩
      rw [spl5_bytes]
      refine ⟨some ⟨w.heap.size, 0, none⟩, min 5 (s.size + 1), by rw [List.length_map], ?_, ?_, (Below.refl _ _).alloc (Nat.le_refl _) _⟩
      · have h1 := (spl_cut (min 5 (s.data.toList.length + 1) - 1) s.data.toList).1
        have : s.data.toList.length = s.size := by simp
        show (Lib.splitK [46] 0 (min 5 (s.data.toList.length + 1) - 1) s.data.toList).length ≤ _
        omega
      · intro i c hc
        refine ⟨w.heap.size, 0, rfl, by simp, ?_⟩
        have := heap_alloc_new w (.cells (Lib.cellsOf ((spl5 s.data.toList).map btx) (min 5 (s.size + 1))) 9)
        obtain ⟨h1, h2⟩ := List.getElem?_eq_some_iff.1 hc
        have hx : (Lib.cellsOf ((spl5 s.data.toList).map btx) (min 5 (s.size + 1)))[i]? = some (.string c) := by
          unfold Lib.cellsOf
          rw [List.getElem?_toArray, List.getElem?_append_left (by rw [List.length_map]; exact h1), List.getElem?_map, hc]
          rfl
        rw [Nat.zero_add]
        have e31 : lays147_ren.t 9 = 9 := rfl
        rw [e31]
        simp only [World.cell?, this]
        exact hx
  have HG := HG.out
  go_enter Tryz.func35, Tryz.ntmps35
  go_wp2_with (go_at_call 52; refine HG.mono ?_; rintro e w1 ⟨A, c, rfl, hcap, hstr, hb⟩; have HH := Lib.hid (And.intro hcap (And.intro hstr hb)); clear hcap hstr hb)
  go_ret
  exact ⟨A, c, rfl, HH.out⟩
end Go.Proofs.YtfodkkdggajjaaaGreatDoor

/-
  The document's value, small and colons of layer 8, by their contracts.
-/
namespace Go.Proofs.YtfodkkdggajjaaaGreatDoor
open Go.RowKit

def optI (o : Option Nat) : Int := match o with
  | none => -1
  | some n => n
theorem get_at8 {s : ByteArray} {k : Nat} (h : k < s.size) : s.data.toList[k]? = some (s[k]'h) := by rw [Array.getElem?_toList]; exact Array.getElem?_eq_getElem _
theorem take_at {s : ByteArray} {k : Nat} (h : k < s.size) : s.data.toList.take (k + 1) = s.data.toList.take k ++ [s[k]'h] := by
  have hl : k < s.data.toList.length := by simpa using h
  rw [List.take_succ_eq_append_getElem hl]
  congr 2
theorem value8_of {s : ByteArray} (h1 : 1 ≤ s.size) (h4 : s.size ≤ 4) : value8 s.data.toList = digs 16 0 s.data.toList := by
  have hl : s.data.toList.length = s.size := by simp
  unfold value8
  rw [if_neg]
  intro e
  rcases e with e | e
  · rw [e] at hl; simp at hl; omega
  · omega

set_option maxHeartbeats 2000000 in
set_option maxRecDepth 100000 in
theorem value8_any (s : ByteArray) (w : World) (hs : s.size ≤ 10000) :
    Calls Tryz.prog 28 #[.string s] w fun e w' => e = .returned (.int .i64 (optI (value8 s.data.toList))) ∧ w = w' := by
  have HSl : Hid (s.data.toList.length = s.size) := by show s.data.toList.length = s.size; simp
  by_cases h0 : s.size = 0
  · have HN : Hid (optI (value8 s.data.toList) = -1) := by
      show optI (value8 s.data.toList) = -1
      have : s.data.toList = [] := List.eq_nil_of_length_eq_zero (by rw [HSl.out]; exact h0)
      rw [this]; rfl
    go_enter Tryz.func28, Tryz.ntmps28
    go_wp2
    go_loopw [3, 4] (fun v3 i wr => v3 = .int .i64 0 ∧ i = .int .i64 0 ∧ wr = w) (fun _ _ _ => 0)
    case atStart => exact ⟨rfl, rfl, rfl⟩
    case round =>
      obtain ⟨rfl, rfl, hw⟩ := hrel
      have hw' := hw.symm
      subst hw'
      clear hw
      go_wp2
      go_ret
      exact ⟨by rw [HN.out]; rfl, rfl⟩
  · by_cases h4 : s.size ≤ 4
    · have HV := Lib.hid (value8_of (by omega) h4)
      have hpos : 0 < s.size := by omega
      clear h0
      go_enter Tryz.func28, Tryz.ntmps28
      go_wp2
      go_loopw [3, 4] (fun v3 i wr => ∃ k v : Nat, k ≤ s.size ∧ i = .int .i64 k ∧ v3 = .int .i64 v ∧ wr = w ∧ v < 16 ^ k ∧ digs 16 0 (s.data.toList.take k) = some v) (fun _ i _ => s.size - (intOf i).toNat)
      case atStart => exact ⟨0, 0, by omega, rfl, rfl, rfl, by simp, by rw [List.take_zero]; rfl⟩
      case round =>
        obtain ⟨k, v, hk, rfl, rfl, hw, hvl, hd⟩ := hrel
        have hw' := hw.symm
        subst hw'
        have HD := Lib.hid (And.intro hd hvl)
        have hv4 : v < 65536 := by
          have : 16 ^ k ≤ 16 ^ 4 := Nat.pow_le_pow_right (by omega) (by omega)
          omega
        clear hw hd hvl
        by_cases hlt : k < s.size
        · have HT := Lib.hid (take_at hlt)
          have hu := val_le (s[k]'hlt)
          by_cases hg : 0 ≤ val (s[k]'hlt).toNat ∧ val (s[k]'hlt).toNat < 16
          · have HG := Lib.hid (digs_good HD.out.1 hg.1 hg.2)
            obtain ⟨d, hd⟩ : ∃ d : Nat, val (s[k]'hlt).toNat = d := ⟨(val (s[k]'hlt).toNat).toNat, by omega⟩
            have HVd := Lib.hid hd
            rw [hd] at hg HG
            have hd1 := hg.2
            rw [Int.toNat_natCast] at HG
            clear hd hu hg
            go_wp2_with (go_at_call 39; refine (value7_is HVd.out _).mono ?_; rintro e w' ⟨rfl, rfl⟩)
            all_goals
              go_roundw
              case rel =>
                refine ⟨k + 1, v * 16 + d, by omega, by go_num, ?_, by first | rfl | trivial, ?_, by rw [HT.out]; exact HG.out⟩
                · congr 1; simp; omega
                · have := HD.out.2; rw [Nat.pow_succ]; omega
              case measure => simp [intOf]; omega
          · have HN : Hid (optI (value8 s.data.toList) = -1) := by
              show optI (value8 s.data.toList) = -1
              have hb := digs_bad HD.out.1 hg (s.data.toList.drop (k + 1))
              rw [← HT.out, List.take_append_drop] at hb
              rw [HV.out, hb]; rfl
            obtain ⟨x, hx⟩ : ∃ x : Int, val (s[k]'hlt).toNat = x := ⟨_, rfl⟩
            have HVd := Lib.hid hx
            rw [hx] at hg hu
            have hx0 : x < 0 := by omega
            clear hx hg hu
            go_wp2_with (go_at_call 39; refine (value7_is HVd.out _).mono ?_; rintro e w' ⟨rfl, rfl⟩)
            all_goals
              go_ret
              exact ⟨by rw [HN.out]; rfl, rfl⟩
        · have HN : Hid (optI (value8 s.data.toList) = (v : Nat)) := by
            show optI (value8 s.data.toList) = (v : Nat)
            have := HD.out.1
            rw [List.take_of_length_le (by rw [HSl.out]; omega)] at this
            rw [HV.out, this]; rfl
          have hz : ((s.size : Int) == 0) = false := beq_eq_false_iff_ne.2 (by omega)
          go_wp2
          go_ret
          exact ⟨by rw [HN.out]; rfl, rfl⟩
    · have HN : Hid (optI (value8 s.data.toList) = -1) := by
        show optI (value8 s.data.toList) = -1
        unfold value8
        rw [if_pos (.inr (by rw [HSl.out]; omega))]; rfl
      have hpos : 0 < s.size := by omega
      clear h0
      go_enter Tryz.func28, Tryz.ntmps28
      go_wp2
      go_loopw [3, 4] (fun v3 i wr => v3 = .int .i64 0 ∧ i = .int .i64 0 ∧ wr = w) (fun _ _ _ => 0)
      case atStart => exact ⟨rfl, rfl, rfl⟩
      case round =>
        obtain ⟨rfl, rfl, hw⟩ := hrel
        have hw' := hw.symm
        subst hw'
        clear hw
        obtain ⟨x, hx⟩ : ∃ x : Int, val (s[0]'hpos).toNat = x := ⟨_, rfl⟩
        have hu := val_le (s[0]'hpos)
        rw [hx] at hu
        obtain ⟨hu0, hu1⟩ := hu
        have HVd := Lib.hid hx
        clear hx
        by_cases hx0 : x < 0
        · go_wp2_with (go_at_call 39; refine (value7_is HVd.out _).mono ?_; rintro e w' ⟨rfl, rfl⟩)
          all_goals
            go_ret
            exact ⟨by rw [HN.out]; rfl, rfl⟩
        · go_wp2_with (go_at_call 39; refine (value7_is HVd.out _).mono ?_; rintro e w' ⟨rfl, rfl⟩)
          all_goals
            go_ret
            exact ⟨by rw [HN.out]; rfl, rfl⟩

/-- The place of the first pair, from a place on. -/
theorem colons8_drop {l : List UInt8} {k : Nat} (h : ∀ j, j < k → ¬ (l[j]? = some 58 ∧ l[j + 1]? = some 58)) : colons8 l = (colons8 (l.drop k)).map (· + k) := by
  induction k generalizing l with
  | zero => cases h2 : colons8 l <;> simp [h2]
  | succ k ih =>
    cases l with
    | nil => rfl
    | cons a t =>
      have h0 := h 0 (by omega)
      have hc : colons8 (a :: t) = (colons8 t).map (· + 1) := by
        apply colons8_cons
        by_cases ha : a = 58
        · right
          intro e
          apply h0
          subst ha
          refine ⟨rfl, ?_⟩
          cases t with
          | nil => cases e
          | cons b t => simpa using e
        · exact .inl ha
      rw [hc, ih (l := t) (fun j hj e => h (j + 1) (by omega) (by simpa using e)), List.drop_succ_cons]
      cases colons8 (t.drop k) with
      | none => rfl
      | some x => simp; omega
theorem colons8_here {l : List UInt8} {k : Nat} (h : ∀ j, j < k → ¬ (l[j]? = some 58 ∧ l[j + 1]? = some 58)) (h1 : l[k]? = some 58) (h2 : l[k + 1]? = some 58) : colons8 l = some k := by
  rw [colons8_drop h]
  have e : l.drop k = 58 :: 58 :: l.drop (k + 2) := by
    obtain ⟨a1, b1⟩ := List.getElem?_eq_some_iff.1 h1
    obtain ⟨a2, b2⟩ := List.getElem?_eq_some_iff.1 h2
    rw [List.drop_eq_getElem_cons a1, b1, List.drop_eq_getElem_cons a2, b2]
  rw [e, colons8, if_pos ⟨rfl, rfl⟩]
  simp
theorem colons8_end {l : List UInt8} {k : Nat} (h : ∀ j, j < k → ¬ (l[j]? = some 58 ∧ l[j + 1]? = some 58)) (hk : l.length ≤ k + 1) : colons8 l = none := by
  rw [colons8_drop h]
  have : (l.drop k).length ≤ 1 := by rw [List.length_drop]; omega
  match hd : l.drop k, this with
  | [], _ => rfl
  | [_], _ => rfl
  | _ :: _ :: _, h => rw [hd] at this; simp at this

set_option maxHeartbeats 2000000 in
set_option maxRecDepth 100000 in
theorem colons8_any (s : ByteArray) (w : World) (hs : s.size ≤ 10000) :
    Calls Tryz.prog 14 #[.string s] w fun e w' => e = .returned (.int .i64 (optI (colons8 s.data.toList))) ∧ w = w' := by
  have HSl : Hid (s.data.toList.length = s.size) := by show s.data.toList.length = s.size; simp
  go_enter Tryz.func14, Tryz.ntmps14
  go_wp2
  go_loopw [3] (fun i wr => ∃ k : Nat, k ≤ s.size ∧ i = .int .i64 k ∧ wr = w ∧ ∀ j, j < k → ¬ (s.data.toList[j]? = some 58 ∧ s.data.toList[j + 1]? = some 58)) (fun i _ => s.size - (intOf i).toNat)
  case atStart => exact ⟨0, by omega, rfl, rfl, fun j hj => by omega⟩
  case round =>
    obtain ⟨k, hk, rfl, hw, hno⟩ := hrel
    have hw' := hw.symm
    subst hw'
    have HN := Lib.hid hno
    clear hw hno
    by_cases hlt : k + 1 < s.size
    · have hlt0 : k < s.size := by omega
      have G0 := Lib.hid (get_at8 hlt0)
      have G1 := Lib.hid (get_at8 hlt)
      have hi1 : (k : Int) + 1 < (s.size : Int) := by omega
      by_cases ha : s[k]'hlt0 = 58
      · have hc0 : (((s[k]'hlt0).toNat : Int) == 58) = true := by rw [ha]; rfl
        by_cases hb : s[k + 1]'hlt = 58
        · have hc1 : (((s[k + 1]'hlt).toNat : Int) == 58) = true := by rw [hb]; rfl
          have HR := Lib.hid (colons8_here HN.out (by rw [G0.out, ha]) (by rw [G1.out, hb]))
          clear ha hb
          go_wp2
          go_ret
          exact ⟨by rw [HR.out]; rfl, rfl⟩
        · have hc1 : (((s[k + 1]'hlt).toNat : Int) == 58) = false := beq_eq_false_iff_ne.2 (fun e => hb (UInt8.toNat_inj.1 (by show _ = 58; omega)))
          have HN2 : Hid (∀ j, j < k + 1 → ¬ (s.data.toList[j]? = some 58 ∧ s.data.toList[j + 1]? = some 58)) := by
            intro j hj
            rcases Nat.lt_or_ge j k with h | h
            · exact HN.out j h
            · obtain rfl : j = k := by omega
              rw [G1.out]
              exact fun e => hb (Option.some.inj e.2)
          clear ha hb
          go_wp2
          all_goals
            go_roundw
            case rel => exact ⟨k + 1, by omega, by go_num, by first | rfl | trivial, HN2.out⟩
            case measure => simp [intOf]; omega
      · have hc0 : (((s[k]'hlt0).toNat : Int) == 58) = false := beq_eq_false_iff_ne.2 (fun e => ha (UInt8.toNat_inj.1 (by show _ = 58; omega)))
        have HN2 : Hid (∀ j, j < k + 1 → ¬ (s.data.toList[j]? = some 58 ∧ s.data.toList[j + 1]? = some 58)) := by
          intro j hj
          rcases Nat.lt_or_ge j k with h | h
          · exact HN.out j h
          · obtain rfl : j = k := by omega
            rw [G0.out]
            exact fun e => ha (Option.some.inj e.1)
        clear ha
        go_wp2
        all_goals
          go_roundw
          case rel => exact ⟨k + 1, by omega, by go_num, by first | rfl | trivial, HN2.out⟩
          case measure => simp [intOf]; omega
    · have HR := Lib.hid (colons8_end HN.out (by rw [HSl.out]; omega))
      have hi1 : ¬ (k : Int) + 1 < (s.size : Int) := by omega
      go_wp2
      go_ret
      exact ⟨by rw [HR.out]; rfl, rfl⟩
end Go.Proofs.YtfodkkdggajjaaaGreatDoor

/-
  The document's small of layer 8, by its contract.
-/
namespace Go.Proofs.YtfodkkdggajjaaaGreatDoor
open Go.RowKit

theorem val_fig {b : UInt8} (h0 : 48 ≤ b.toNat) (h1 : b.toNat ≤ 57) : val b.toNat = (b.toNat : Int) - 48 := by unfold val; rw [if_pos (by omega)]
theorem val_nofig {b : UInt8} (h : ¬ (48 ≤ b.toNat ∧ b.toNat ≤ 57)) : ¬ (0 ≤ val b.toNat ∧ val b.toNat < (10 : Nat)) := by
  unfold val
  rw [if_neg (by omega)]
  split
  · omega
  · split <;> omega
theorem head_zero {s : ByteArray} (h : 0 < s.size) : s.data.toList.head? = some (s[0]'h) := by
  rw [List.head?_eq_getElem?, get_at8 h]
theorem small8_long {s : ByteArray} (h : 3 < s.size) : small8 s.data.toList = none := by
  have hl : s.data.toList.length = s.size := by simp
  unfold small8
  rw [if_pos (.inr (.inl (by omega)))]
theorem small8_zero {s : ByteArray} (h : 1 < s.size) (h0 : (s[0]'(by omega)).toNat = 48) : small8 s.data.toList = none := by
  have hl : s.data.toList.length = s.size := by simp
  unfold small8
  rw [if_pos (.inr (.inr ⟨by omega, by rw [head_zero (by omega)]; congr 1; exact UInt8.toNat_inj.1 h0⟩))]
def cap255 (o : Option Nat) : Option Nat := match o with
  | none => none
  | some n => if n ≤ 255 then some n else none
theorem small8_of {s : ByteArray} (h1 : 0 < s.size) (h3 : s.size ≤ 3) (hz : s.size = 1 ∨ ¬ (s[0]'h1).toNat = 48) : small8 s.data.toList = cap255 (digs 10 0 s.data.toList) := by
  have hl : s.data.toList.length = s.size := by simp
  have hne : ¬ (s.data.toList = [] ∨ 3 < s.data.toList.length ∨ (1 < s.data.toList.length ∧ s.data.toList.head? = some 48)) := by
    rintro (e | e | ⟨e1, e2⟩)
    · rw [e] at hl; simp at hl; omega
    · omega
    · rw [head_zero h1] at e2
      rcases hz with hz | hz
      · omega
      · exact hz (by have := Option.some.inj e2; rw [this]; rfl)
  unfold small8
  rw [if_neg hne]
  rfl

set_option maxHeartbeats 4000000 in
set_option maxRecDepth 100000 in
theorem small8_any (s : ByteArray) (w : World) (hs : s.size ≤ 10000) :
    Calls Tryz.prog 38 #[.string s] w fun e w' => e = .returned (.int .i64 (optI (small8 s.data.toList))) ∧ w = w' := by
  have HSl : Hid (s.data.toList.length = s.size) := by show s.data.toList.length = s.size; simp
  by_cases h0 : s.size = 0
  · have HN : Hid (optI (small8 s.data.toList) = -1) := by
      show optI (small8 s.data.toList) = -1
      have : s.data.toList = [] := List.eq_nil_of_length_eq_zero (by rw [HSl.out]; exact h0)
      rw [this]; rfl
    go_enter Tryz.func38, Tryz.ntmps38
    go_wp2
    go_loopw [3, 4] (fun v3 i wr => v3 = .int .i64 0 ∧ i = .int .i64 0 ∧ wr = w) (fun _ _ _ => 0)
    case atStart => exact ⟨rfl, rfl, rfl⟩
    case round =>
      obtain ⟨rfl, rfl, hw⟩ := hrel
      have hw' := hw.symm
      subst hw'
      clear hw
      go_wp2
      go_ret
      exact ⟨by rw [HN.out]; rfl, rfl⟩
  · have hpos : 0 < s.size := by omega
    by_cases hbad : 3 < s.size ∨ (1 < s.size ∧ (s[0]'hpos).toNat = 48)
    · have HN : Hid (optI (small8 s.data.toList) = -1) := by
        show optI (small8 s.data.toList) = -1
        rcases hbad with h | ⟨h, e⟩
        · rw [small8_long h]; rfl
        · rw [small8_zero h e]; rfl
      clear h0
      go_enter Tryz.func38, Tryz.ntmps38
      go_wp2
      go_loopw [3, 4] (fun v3 i wr => v3 = .int .i64 0 ∧ i = .int .i64 0 ∧ wr = w) (fun _ _ _ => 0)
      case atStart => exact ⟨rfl, rfl, rfl⟩
      case round =>
        obtain ⟨rfl, rfl, hw⟩ := hrel
        have hw' := hw.symm
        subst hw'
        clear hw
        by_cases hf : 48 ≤ (s[0]'hpos).toNat
        · by_cases hf2 : (s[0]'hpos).toNat ≤ 57
          · by_cases h3 : 3 < s.size
            · clear hbad
              go_wp2
              all_goals
                go_ret
                exact ⟨by rw [HN.out]; rfl, rfl⟩
            · have hb := hbad.resolve_left h3
              have hb1 := hb.1
              have hc0 : (((s[0]'hpos).toNat : Int) == 48) = true := by rw [hb.2]; rfl
              clear hbad hb
              go_wp2
              all_goals
                go_ret
                exact ⟨by rw [HN.out]; rfl, rfl⟩
          · clear hbad
            go_wp2
            all_goals
              go_ret
              exact ⟨by rw [HN.out]; rfl, rfl⟩
        · clear hbad
          go_wp2
          all_goals
            go_ret
            exact ⟨by rw [HN.out]; rfl, rfl⟩
    · have h3 : s.size ≤ 3 := by omega
      have hz : s.size = 1 ∨ ¬ (s[0]'hpos).toNat = 48 := by omega
      have HV := Lib.hid (small8_of hpos h3 hz)
      have hq : ¬ (1 : Int) < (s.size : Int) ∨ (((s[0]'hpos).toNat : Int) == 48) = false := by
        rcases hz with h | h
        · exact .inl (by omega)
        · exact .inr (beq_eq_false_iff_ne.2 (by omega))
      clear h0 hbad hz
      go_enter Tryz.func38, Tryz.ntmps38
      go_wp2
      go_loopw [3, 4] (fun v3 i wr => ∃ k v : Nat, k ≤ s.size ∧ i = .int .i64 k ∧ v3 = .int .i64 v ∧ wr = w ∧ v < 10 ^ k ∧ digs 10 0 (s.data.toList.take k) = some v) (fun _ i _ => s.size - (intOf i).toNat)
      case atStart => exact ⟨0, 0, by omega, rfl, rfl, rfl, by simp, by rw [List.take_zero]; rfl⟩
      case round =>
        obtain ⟨k, v, hk, rfl, rfl, hw, hvl, hd⟩ := hrel
        have hw' := hw.symm
        subst hw'
        have HD := Lib.hid (And.intro hd hvl)
        have hv4 : v < 1000 := by
          have : 10 ^ k ≤ 10 ^ 3 := Nat.pow_le_pow_right (by omega) (by omega)
          omega
        clear hw hd hvl
        by_cases hlt : k < s.size
        · have HT := Lib.hid (take_at hlt)
          by_cases hg : 48 ≤ (s[k]'hlt).toNat ∧ (s[k]'hlt).toNat ≤ 57
          · have hvf := val_fig hg.1 hg.2
            have HG := Lib.hid (digs_good HD.out.1 (b := s[k]'hlt) (by omega) (by omega))
            obtain ⟨hg1, hg2⟩ := hg
            rw [hvf] at HG
            obtain ⟨d, hd⟩ : ∃ d : Nat, ((s[k]'hlt).toNat : Int) - 48 = d := ⟨(s[k]'hlt).toNat - 48, by omega⟩
            rw [hd, Int.toNat_natCast] at HG
            have hd9 : d ≤ 9 := by omega
            have HE : Hid (10 * (v : Int) + ((s[k]'hlt).toNat : Int) - 48 = ((v * 10 + d : Nat) : Int)) := by
              show 10 * (v : Int) + ((s[k]'hlt).toNat : Int) - 48 = ((v * 10 + d : Nat) : Int)
              rw [Int.natCast_add, Int.natCast_mul]; omega
            clear hvf hd
            rcases hq with hq | hq
            all_goals
              go_wp2
              all_goals
                go_roundw
                case rel =>
                  refine ⟨k + 1, v * 10 + d, by omega, by go_num, ?_, by first | rfl | trivial, ?_, by rw [HT.out]; exact HG.out⟩
                  · rw [← HE.out]
                  · have := HD.out.2; rw [Nat.pow_succ]; omega
                case measure => simp [intOf]; omega
          · have HN : Hid (optI (small8 s.data.toList) = -1) := by
              show optI (small8 s.data.toList) = -1
              have hb := digs_bad HD.out.1 (val_nofig hg) (s.data.toList.drop (k + 1))
              rw [← HT.out, List.take_append_drop] at hb
              rw [HV.out, hb]; rfl
            by_cases hg1 : 48 ≤ (s[k]'hlt).toNat
            · have hg2 : ¬ (s[k]'hlt).toNat ≤ 57 := fun e => hg ⟨hg1, e⟩
              clear hg
              go_wp2
              all_goals
                go_ret
                exact ⟨by rw [HN.out]; rfl, rfl⟩
            · clear hg
              go_wp2
              all_goals
                go_ret
                exact ⟨by rw [HN.out]; rfl, rfl⟩
        · have HNv : Hid (small8 s.data.toList = if v ≤ 255 then some v else none) := by
            show small8 s.data.toList = if v ≤ 255 then some v else none
            have := HD.out.1
            rw [List.take_of_length_le (by rw [HSl.out]; omega)] at this
            rw [HV.out, this]; rfl
          have hz : ((s.size : Int) == 0) = false := beq_eq_false_iff_ne.2 (by omega)
          by_cases h255 : v ≤ 255
          · have HN : Hid (optI (small8 s.data.toList) = (v : Nat)) := by show optI (small8 s.data.toList) = (v : Nat); rw [HNv.out, if_pos h255]; rfl
            go_wp2
            all_goals
              go_ret
              exact ⟨by rw [HN.out]; rfl, rfl⟩
          · have HN : Hid (optI (small8 s.data.toList) = -1) := by show optI (small8 s.data.toList) = -1; rw [HNv.out, if_neg h255]; rfl
            go_wp2
            all_goals
              go_ret
              exact ⟨by rw [HN.out]; rfl, rfl⟩
end Go.Proofs.YtfodkkdggajjaaaGreatDoor

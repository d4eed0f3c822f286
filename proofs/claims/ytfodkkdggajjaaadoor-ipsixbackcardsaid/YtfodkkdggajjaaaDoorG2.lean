/-
  In this text, one behind the other: Lists, Ref, Ref2, Ref3, SixHex, SixShelf, ZShelf, XNum, FBase, XSplit, ZSplit, YRef, YSmall, YQuad, YList, YList2, YHex, YRun, YText.
-/
import Derived.IntWalk
import Derived.Lib.Hide
import Derived.Lib.ConvBytes
import Derived.Lib.AtoiErrMem
import Derived.Shelf.Strings.Cut
import Derived.Shelf.Strings.Search3
import Derived.Shelf.Strings.OnBuilder
import Derived.Shelf.Pu.ParseUintPublic10
import Derived.Shelf.Spec.TrailingZeros
import Derived.Shelf.Strings.Split
import Derived.Shelf.Strconv.Itoa3
import Derived.WalkKit
import Derived.WalkSpells
import Derived.WalkLawsBesides
import Derived.LaidEql
import Derived.Stop.Asserts
import Derived.RowKitTokens
import Derived.Maps.AppendAt
import Derived.Deep.RegionHeld3
import Derived.Deep.AppendLies
import Derived.Deep.RegionWith
import Derived.BigQuiet
import Derived.Test.YtfodkkdggajjaaaDoorG1
import Derived.Test.YtfodkkdggajjaaaDoorRows
/-
  Slices of runes that read as lists; utf.Decode, utf.Valid, utf.Encode and the document's Same, by their contracts.
-/
namespace Go.Proofs.YtfodkkdggajjaaaDoor
open Go.RowKit

/-- A slice of runes that reads as a list; nil let in. -/
def Runes (w : World) (A : Option Addr) (l : List Int) : Prop :=
  ∀ i c, l[i]? = some c → ∃ b off, A = some ⟨b, off, none⟩ ∧ b < w.heap.size ∧ w.cell? ⟨b, off + i, none⟩ = some (.int .i32 c)

theorem Runes.below {w w' : World} {A : Option Addr} {l : List Int} (h : Runes w A l) (hb : Below w.heap.size w w') : Runes w' A l := by
  intro i c hc
  obtain ⟨b, off, e, hl, hc⟩ := h i c hc
  exact ⟨b, off, e, Nat.lt_of_lt_of_le hl hb.size, (hb.cell (p := ⟨b, off + i, none⟩) hl).trans hc⟩

theorem Runes.drewN {w : World} {A : Option Addr} {l : List Int} (h : Runes w A l) (n : Nat) : Runes (w.drewN n) A l :=
  h.below (below_drewN (Below.refl _ _) n)

theorem Tryd.infoR : (Tryd.prog.info? 21).map (fun i => (i.zero, i.size, i.bytes)) = some (some (.int .i32 0), 1, 4) := by kernel_rfl

/-- A slice of runes that the call made itself. -/
def Made (w w' : World) (v : Value) (l : List Int) : Prop :=
  w'.ownsRow w.heap.size 21 1 v l.length (l.map (Value.int .i32)) ∧ Below w.heap.size w w'

theorem Made.runes {w w' : World} {v : Value} {l : List Int} (h : Made w w' v l) : ∃ A c, v = .slice A l.length c ∧ Runes w' A l := by
  obtain ⟨h, hb⟩ := h
  rcases h.2 with ⟨rfl, h0⟩ | ⟨g, cap, cur, rfl, _⟩
  · rw [h0]
    obtain rfl := List.eq_nil_of_length_eq_zero h0
    exact ⟨none, 0, rfl, fun i s hs => by simp at hs⟩
  · rename_i hh
    refine ⟨_, _, rfl, fun i s hs => ?_⟩
    have hi : i < l.length := (List.getElem?_eq_some_iff.1 hs).1
    have hc := h.cellAt (g := g) i (by simpa using hi)
    refine ⟨g, 0, rfl, ?_, ?_⟩
    · exact (Array.getElem?_eq_some_iff.1 hh.2.1).1
    · rw [Nat.zero_add, hc, List.getElem?_map, hs]; rfl

theorem own_ge {w : World} {base : Nat} {e : TypeId} {size : Nat} {v : Value} {n : Nat} {xs : List Value} (h : w.ownsRow base e size v n xs) (k : Nat) (hk : v.ownBlock = some k) : base ≤ k := by
  rcases h.2 with ⟨rfl, _⟩ | ⟨g, cap, cur, rfl, hb, _⟩
  · simp [Value.ownBlock] at hk
  · simp [Value.ownBlock] at hk; omega

theorem own_below {w w' : World} {base : Nat} {e : TypeId} {size : Nat} {v : Value} {n : Nat} {xs : List Value} (h : w.ownsRow base e size v n xs) (hb : Below w.heap.size w w') : w'.ownsRow base e size v n xs := by
  obtain ⟨h1, h2⟩ := h
  refine ⟨h1, ?_⟩
  rcases h2 with h2 | ⟨g, cap, cur, rfl, hg, hh, r⟩
  · exact .inl h2
  · exact .inr ⟨g, cap, cur, rfl, hg, (hb.block g (Array.getElem?_eq_some_iff.1 hh).1).trans hh, r⟩
theorem Made.carry {w w1 w2 : World} {v : Value} {l : List Int} (h : Made w w1 v l) (hb : Below w1.heap.size w1 w2) : Made w w2 v l :=
  ⟨own_below h.1 hb, h.2.trans (hb.mono h.2.size)⟩
theorem Made.push {w wr w1 : World} {v v' : Value} {c : Int} {l : List Int} {tmp : Obj} (h : Made w wr v l)
    (hown : w1.ownsRow w.heap.size 21 1 v' (l.length + 1) (l.map (Value.int .i32) ++ [.int .i32 c])) (hg : (wr.alloc tmp).grownBy w1 v.ownBlock) : Made w w1 v' (l ++ [c]) := by
  refine ⟨by simpa using hown, (h.2.alloc h.2.size tmp).grown hg (by have := h.2.size; simp; omega) (own_ge h.1)⟩

def MadePost (w : World) (l : List Int) (e : Ending) (w' : World) : Prop := ∃ v, e = .returned v ∧ Made w w' v l

theorem extract_list (s : ByteArray) (k : Nat) : (s.extract k s.size).data.toList = s.data.toList.drop k := by
  simp only [ByteArray.data_extract, Array.toList_extract, List.extract_eq_take_drop]
  exact List.take_of_length_le (by simp)

/-- Decoding from a place on: what is behind it, and what is told till there. -/
def DecRel (w : World) (s : ByteArray) (at_ : Nat) (v : Value) (wr : World) : Prop :=
  ∃ l, dec s.data.toList = l ++ dec (s.data.toList.drop at_) ∧ l.length ≤ at_ ∧ Made w wr v l

theorem runes_bytes (l : List Int) : (runesBytes l).data.toList = enc l := by
  have h : ∀ (l : List Int) (s : ByteArray), (l.foldl (fun r n => r ++ Utf8.encode n) s).data.toList = s.data.toList ++ enc l := by
    intro l
    induction l with
    | nil => intro s; simp [enc]
    | cons c l ih => intro s; simp only [List.foldl_cons]; rw [ih]; simp [enc, enc1]
  exact (h l ByteArray.empty).trans (by simp)

theorem add_at (b off j : Nat) : (⟨b, off, none⟩ : Addr).add j = ⟨b, off + j, none⟩ := by
  unfold Addr.add
  split <;> simp_all

/-- Two lists that are the same. -/
def same (a b : List Int) : Bool := decide (a = b)

theorem ne_of_at {a b : List Int} {k : Nat} (ha : k < a.length) (hb : k < b.length) (h : a[k] ≠ b[k]) : same a b = false := by
  simp only [same, decide_eq_false_iff_not]
  rintro rfl
  exact h rfl
theorem ne_of_len {a b : List Int} (h : a.length ≠ b.length) : same a b = false := by
  simp only [same, decide_eq_false_iff_not]
  rintro rfl
  exact h rfl

end Go.Proofs.YtfodkkdggajjaaaDoor

/-
  The document's answers of layer 2 (begin, value, bytes, Decode, Encode, Valid), by their contracts.
-/
namespace Go.Proofs.YtfodkkdggajjaaaDoor
open Go.RowKit

/-- How many bytes, from a place on, are the longest begin of some scalar's. -/
def begOf (s : ByteArray) (k : Nat) (h : k < s.size) : Nat := if lensOf s[k].toNat = 0 then 0 else ext s[k].toNat (lensOf s[k].toNat) 1 (s.data.toList.drop (k + 1))

def BegRel (s : ByteArray) (k : Nat) (h : k < s.size) (n j : Nat) : Prop :=
  (n = 0 ∧ j = 0) ∨ (1 ≤ n ∧ 1 ≤ j ∧ j ≤ n ∧ k + j ≤ s.size ∧ ext s[k].toNat n 1 (s.data.toList.drop (k + 1)) = ext s[k].toNat n j (s.data.toList.drop (k + j)))

theorem BegRel.ends {s : ByteArray} {k : Nat} {h : k < s.size} {n j : Nat} (r : BegRel s k h n j) (hn : lensOf s[k].toNat = n)
    (hj : ¬ (0 < j ∧ j < n ∧ k + j < s.size) ∨ ∃ hs : k + j < s.size, fol s[k].toNat s[k + j].toNat j = false) : begOf s k h = j := by
  unfold begOf
  rcases r with ⟨h1, h2⟩ | ⟨h1, h2, h3, h4, h5⟩
  · rw [if_pos (by omega), h2]
  · rw [if_neg (by omega), hn, h5]
    rcases hj with hj | ⟨hs, hf⟩
    · by_cases e : j = n
      · subst e; exact ext_full _ _ _ _ (Nat.le_refl _)
      · rw [drop_end s (k + j) (by omega), ext_nil]
    · rw [drop_byte s (k + j) hs, ext_bad _ _ _ _ _ hf]
theorem BegRel.next {s : ByteArray} {k : Nat} {h : k < s.size} {n j : Nat} (r : BegRel s k h n j) (h0 : 0 < j) (h1 : j < n) (h2 : k + j < s.size) (hf : fol s[k].toNat s[k + j].toNat j = true) : BegRel s k h n (j + 1) := by
  rcases r with ⟨h1, h2⟩ | ⟨h1, h2, h3, h4, h5⟩
  · omega
  · refine .inr ⟨h1, by omega, by omega, by omega, ?_⟩
    rw [h5, drop_byte s (k + j) (by omega), ext_good _ _ _ _ _ (by omega) hf]
    rfl

theorem acc_snoc (v : Int) (t : List UInt8) (c : UInt8) : acc v (t ++ [c]) = 64 * acc v t + (c.toNat : Int) - 128 := by
  unfold acc; rw [List.foldl_append]; simp only [List.foldl]; omega

def ValRel (s : ByteArray) (h0 : 0 < s.size) (k : Nat) (v : Int) : Prop :=
  1 ≤ k ∧ k ≤ s.size ∧ v = acc (headBits s[0].toNat s.size) ((s.data.toList.drop 1).take (k - 1)) ∧
  (k = 1 → -300 ≤ v ∧ v ≤ 300) ∧ (k = 2 → -20000 ≤ v ∧ v ≤ 20000) ∧ (k = 3 → -1300000 ≤ v ∧ v ≤ 1300000) ∧ (k = 4 → -90000000 ≤ v ∧ v ≤ 90000000)

theorem ValRel.next {s : ByteArray} {h0 : 0 < s.size} {k : Nat} {v : Int} (r : ValRel s h0 k v) (h : k < s.size) : ValRel s h0 (k + 1) (64 * v + (s[k].toNat : Int) - 128) := by
  obtain ⟨r1, r2, r3, r4, r5, r6, r7⟩ := r
  have hu : s[k].toNat < 256 := s[k].toNat_lt
  refine ⟨by omega, by omega, ?_, by omega, by omega, by omega, by omega⟩
  rw [Nat.add_sub_cancel, take_byte s k h r1, acc_snoc, r3]

end Go.Proofs.YtfodkkdggajjaaaDoor

/-
  The document's answers of layer 2 (bytes, Encode, Decode, Valid), by their contracts.
-/
namespace Go.Proofs.YtfodkkdggajjaaaDoor
open Go.RowKit

theorem Tryd.infoB : (Tryd.prog.info? 5).map (fun i => (i.zero, i.size, i.bytes)) = some (some (.int .u8 0), 1, 1) := by kernel_rfl

/-- The values of bytes. -/
def cellsOf (l : List UInt8) : List Value := l.map fun c => Value.int .u8 (c.toNat : Int)

/-- A slice of bytes that the call made itself. -/
def MadeB (w w' : World) (v : Value) (l : List UInt8) : Prop :=
  w'.ownsRow w.heap.size 5 1 v l.length (cellsOf l) ∧ Below w.heap.size w w'

theorem MadeB.carry {w w1 w2 : World} {v : Value} {l : List UInt8} (h : MadeB w w1 v l) (hb : Below w1.heap.size w1 w2) : MadeB w w2 v l :=
  ⟨own_below h.1 hb, h.2.trans (hb.mono h.2.size)⟩

def BytesPost (c : Int) (w : World) (e : Ending) (w' : World) : Prop :=
  w.alloc (.cells (cellsOf (enc1 c)).toArray 5) = w' ∧ e = .returned (.slice (some ⟨w.heap.size, 0, none⟩) (enc1 c).length (enc1 c).length)

theorem cells1 (c : Int) (h0 : 0 ≤ c) (h1 : c < 128) : (cellsOf (enc1 c)).toArray = #[Value.int .u8 c] ∧ (enc1 c).length = 1 := by
  rw [enc1_one c h0 h1]
  refine ⟨?_, rfl⟩
  simp only [cellsOf, List.map, ofNat_toNat c.toNat (by omega)]
  rw [show ((c.toNat : Nat) : Int) = c by omega]
theorem cells2 (c : Int) (h0 : 128 ≤ c) (h1 : c < 2048) : (cellsOf (enc1 c)).toArray = #[Value.int .u8 (192 + c / 64), Value.int .u8 (128 + c % 64)] ∧ (enc1 c).length = 2 := by
  rw [enc1_two c h0 h1]
  refine ⟨?_, rfl⟩
  simp only [cellsOf, List.map, ofNat_toNat (192 + c.toNat / 64) (by omega), ofNat_toNat (128 + c.toNat % 64) (by omega)]
  rw [show ((192 + c.toNat / 64 : Nat) : Int) = 192 + c / 64 by omega, show ((128 + c.toNat % 64 : Nat) : Int) = 128 + c % 64 by omega]
theorem cells3 (c : Int) (h0 : 2048 ≤ c) (h1 : c < 65536) (h2 : c < 55296 ∨ 57343 < c) : (cellsOf (enc1 c)).toArray = #[Value.int .u8 (224 + c / 4096), Value.int .u8 (128 + c / 64 % 64), Value.int .u8 (128 + c % 64)] ∧ (enc1 c).length = 3 := by
  rw [enc1_three c h0 h1 h2]
  refine ⟨?_, rfl⟩
  simp only [cellsOf, List.map, ofNat_toNat (224 + c.toNat / 4096) (by omega), ofNat_toNat (128 + c.toNat / 64 % 64) (by omega), ofNat_toNat (128 + c.toNat % 64) (by omega)]
  rw [show ((224 + c.toNat / 4096 : Nat) : Int) = 224 + c / 4096 by omega, show ((128 + c.toNat / 64 % 64 : Nat) : Int) = 128 + c / 64 % 64 by omega, show ((128 + c.toNat % 64 : Nat) : Int) = 128 + c % 64 by omega]
theorem cells4 (c : Int) (h0 : 65536 ≤ c) (h1 : c ≤ 1114111) : (cellsOf (enc1 c)).toArray = #[Value.int .u8 (240 + c / 262144), Value.int .u8 (128 + c / 4096 % 64), Value.int .u8 (128 + c / 64 % 64), Value.int .u8 (128 + c % 64)] ∧ (enc1 c).length = 4 := by
  rw [enc1_four c h0 h1]
  refine ⟨?_, rfl⟩
  simp only [cellsOf, List.map, ofNat_toNat (240 + c.toNat / 262144) (by omega), ofNat_toNat (128 + c.toNat / 4096 % 64) (by omega), ofNat_toNat (128 + c.toNat / 64 % 64) (by omega), ofNat_toNat (128 + c.toNat % 64) (by omega)]
  rw [show ((240 + c.toNat / 262144 : Nat) : Int) = 240 + c / 262144 by omega, show ((128 + c.toNat / 4096 % 64 : Nat) : Int) = 128 + c / 4096 % 64 by omega, show ((128 + c.toNat / 64 % 64 : Nat) : Int) = 128 + c / 64 % 64 by omega, show ((128 + c.toNat % 64 : Nat) : Int) = 128 + c % 64 by omega]

theorem cellsOf_append (a b : List UInt8) : cellsOf (a ++ b) = cellsOf a ++ cellsOf b := by simp [cellsOf]
theorem cellsOf_one (l : List UInt8) : ∀ u ∈ cellsOf l, u.oneCell' = true := by
  intro u hu
  obtain ⟨c, _, rfl⟩ := List.mem_map.1 hu
  rfl
theorem MadeB.push {w wr w1 : World} {v v' : Value} {t l : List UInt8} {tmp : Obj} (h : MadeB w wr v l)
    (hown : w1.ownsRow w.heap.size 5 1 v' (l.length + t.length) (cellsOf l ++ cellsOf t)) (hg : (wr.alloc tmp).grownBy w1 v.ownBlock) : MadeB w w1 v' (l ++ t) := by
  refine ⟨by rw [cellsOf_append, List.length_append]; exact hown, (h.2.alloc h.2.size tmp).grown hg (by have := h.2.size; simp; omega) (own_ge h.1)⟩

theorem cells_new (w : World) (l : List Value) (t : TypeId) (j : Nat) (u : Value) (h : l[j]? = some u) : (w.alloc (.cells l.toArray t)).cell? ((⟨w.heap.size, 0, none⟩ : Addr).add j) = some u := by
  rw [add_at, World.cell?_alloc_at _ _ _ _ rfl, Nat.zero_add]
  simpa using h

def EncPost (l : List Int) (w : World) (e : Ending) (w' : World) : Prop :=
  ∃ t : ByteArray, t.data.toList = enc l ∧ e = .returned (.string t) ∧ Below w.heap.size w w'

theorem convert_bytes {w w' : World} {v : Value} {l : List UInt8} (h : MadeB w w' v l) : (convert 54 9 v).run Tryd.prog w' = .ok (.string ⟨l.toArray⟩) w' := by
  rcases h.1.2 with ⟨rfl, h0⟩ | ⟨g, cap, cur, rfl, _⟩
  · obtain rfl := List.eq_nil_of_length_eq_zero h0
    rw [run_convert_bytes_string w' _ _ _ _ _ _ Tryd.underlying54 Tryd.underlying5 Tryd.underlying9]
    rfl
  · exact run_convert_bytes_back w' _ _ _ ⟨g, 0, none⟩ cap l Tryd.underlying54 Tryd.underlying5 Tryd.underlying9 (fun j hj => by
      rw [add_at, Nat.zero_add, h.1.cellAt (g := g) j (by omega)]
      simp [cellsOf, hj])

theorem enc_take (l : List Int) (k : Nat) (h : k < l.length) : enc (l.take (k + 1)) = enc (l.take k) ++ enc1 l[k] := by
  unfold enc
  rw [List.take_succ_eq_append_getElem h, List.flatMap_append, List.flatMap_cons, List.flatMap_nil, List.append_nil]

end Go.Proofs.YtfodkkdggajjaaaDoor

/-
  The document's Decode and Valid of layer 2, by their contracts.
-/
namespace Go.Proofs.YtfodkkdggajjaaaDoor
open Go.RowKit

theorem one_beg_whole {s : ByteArray} {k b : Nat} (h : k < s.size) (hb : begOf s k h = b) (h0 : 0 < b) (hn : b = lensOf s[k].toNat) :
    one (s.data.toList.drop k) = (acc (headBits s[k].toNat b) ((s.data.toList.drop (k + 1)).take (b - 1)), b, true) := by
  unfold begOf at hb
  rw [if_neg (by omega)] at hb
  rw [drop_byte s k h]
  simp only [one]
  rw [if_pos (by omega), ← hn]
theorem one_beg_part {s : ByteArray} {k b : Nat} (h : k < s.size) (hb : begOf s k h = b) (hn : b = 0 ∨ b ≠ lensOf s[k].toNat) :
    one (s.data.toList.drop k) = (65533, max b 1, false) := by
  unfold begOf at hb
  rw [drop_byte s k h]
  simp only [one]
  by_cases e : lensOf s[k].toNat = 0
  · rw [if_pos e] at hb
    rw [e, ext_full _ _ _ _ (by omega), if_neg (by omega), ← hb]
    rfl
  · rw [if_neg e] at hb
    have hg := ext_ge s[k].toNat (lensOf s[k].toNat) (s.data.toList.drop (k + 1)) 1
    rw [if_neg (by omega), hb, Nat.max_eq_left (by omega)]
theorem beg_le {s : ByteArray} {k : Nat} (h : k < s.size) : begOf s k h ≤ 4 ∧ k + begOf s k h ≤ s.size := by
  unfold begOf
  have h1 := ext_le s[k].toNat (lensOf s[k].toNat) (s.data.toList.drop (k + 1)) 1
  have h2 := ext_le_n s[k].toNat (lensOf s[k].toNat) (s.data.toList.drop (k + 1)) 1
  have h3 := lensOf_le s[k].toNat
  simp at h1
  split <;> omega

theorem part_list (s : ByteArray) (k b : Nat) : (s.extract k (k + b)).data.toList = (s.data.toList.drop k).take b := by
  simp only [ByteArray.data_extract, Array.toList_extract, List.extract_eq_take_drop]
  congr 1; omega
theorem part_size (s : ByteArray) (k b : Nat) (h : k + b ≤ s.size) : (s.extract k (k + b)).size = b := by
  simp; omega

def ValPost (v : Int) (w : World) (e : Ending) (w' : World) : Prop := e = .returned (.int .i32 v) ∧ Below w.heap.size w w'
theorem enc_dec_eq (s t : ByteArray) (ht : t.data.toList = enc (dec s.data.toList)) : (t.toList == s.toList) = vld s.data.toList := by
  rw [ByteArray.toList_eq, ByteArray.toList_eq, ht, vld_eq]
  rw [Bool.eq_iff_iff]; simp

end Go.Proofs.YtfodkkdggajjaaaDoor

/-
  The library's ParseUint at base 16 and 16 bits, for texts of one to four bytes, by its contract.
-/
namespace Go.Proofs.YtfodkkdggajjaaaDoor
open Go.RowKit

theorem lower_is {c L : Int} (h : bits .or .u8 c 32 = L) (w : World) : Calls Tryd.prog 63 #[.int .u8 c] w fun e w' => e = .returned (.int .u8 L) ∧ w = w' := by
  go_enter Tryd.func63, Tryd.ntmps63
  go_wp2
  go_ret
  exact ⟨rfl, rfl⟩

/-- What a byte is to base 16: its bit 32 set, and its value. -/
theorem low_facts : ∀ n : Fin 256, (48 ≤ n.val ∧ n.val ≤ 57 ∧ val (n.val : Nat) = (n.val : Int) - 48)
    ∨ (57 < n.val ∧ n.val ≠ 95 ∧ 97 ≤ bits .or .u8 (n.val : Int) 32 ∧ bits .or .u8 (n.val : Int) 32 ≤ 102 ∧ val (n.val : Nat) = bits .or .u8 (n.val : Int) 32 - 87)
    ∨ (57 < n.val ∧ n.val ≠ 95 ∧ 103 ≤ bits .or .u8 (n.val : Int) 32 ∧ bits .or .u8 (n.val : Int) 32 ≤ 122 ∧ val (n.val : Nat) = -1)
    ∨ (n.val < 48 ∧ n.val ≠ 95 ∧ 0 ≤ bits .or .u8 (n.val : Int) 32 ∧ bits .or .u8 (n.val : Int) 32 < 97 ∧ val (n.val : Nat) = -1)
    ∨ (57 < n.val ∧ n.val ≠ 95 ∧ 0 ≤ bits .or .u8 (n.val : Int) 32 ∧ bits .or .u8 (n.val : Int) 32 < 97 ∧ val (n.val : Nat) = -1)
    ∨ (57 < n.val ∧ n.val ≠ 95 ∧ 122 < bits .or .u8 (n.val : Int) 32 ∧ bits .or .u8 (n.val : Int) 32 ≤ 255 ∧ val (n.val : Nat) = -1)
    ∨ (57 < n.val ∧ n.val = 95 ∧ 122 < bits .or .u8 (n.val : Int) 32 ∧ bits .or .u8 (n.val : Int) 32 ≤ 255 ∧ val (n.val : Nat) = -1) := by decide +kernel
theorem low_of (c : Nat) (h : c < 256) : ∃ L, bits .or .u8 (c : Int) 32 = L ∧ ((48 ≤ c ∧ c ≤ 57 ∧ val c = (c : Int) - 48)
    ∨ (57 < c ∧ c ≠ 95 ∧ 97 ≤ L ∧ L ≤ 102 ∧ val c = L - 87)
    ∨ (57 < c ∧ c ≠ 95 ∧ 103 ≤ L ∧ L ≤ 122 ∧ val c = -1)
    ∨ (c < 48 ∧ c ≠ 95 ∧ 0 ≤ L ∧ L < 97 ∧ val c = -1)
    ∨ (57 < c ∧ c ≠ 95 ∧ 0 ≤ L ∧ L < 97 ∧ val c = -1)
    ∨ (57 < c ∧ c ≠ 95 ∧ 122 < L ∧ L ≤ 255 ∧ val c = -1)
    ∨ (57 < c ∧ c = 95 ∧ 122 < L ∧ L ≤ 255 ∧ val c = -1)) := ⟨_, rfl, low_facts ⟨c, h⟩⟩

/-- A number and no error; or the error of the form. -/
def hexEnd : Option Nat → Value
  | some n => .tuple #[.int .u64 (n : Int), .nilIface]
  | none => .tuple #[.int .u64 0, .iface 115 (.int .i64 2)]
theorem digs_no {c : UInt8} {r : List UInt8} {acc : Nat} (h : val c.toNat = -1) : digs 16 acc (c :: r) = none := by
  rw [digs, if_neg (by omega)]
theorem digs_yes {c : UInt8} {r : List UInt8} {acc : Nat} {v : Int} (h : val c.toNat = v) (h0 : 0 ≤ v) (h1 : v < 16) : digs 16 acc (c :: r) = digs 16 (acc * 16 + v.toNat) r := by
  rw [digs, h, if_pos (by omega)]
theorem pow_room {k acc : Nat} (hk : k < 4) (h : acc < 16 ^ k) : acc ≤ 4095 := by
  have : 16 ^ k ≤ 16 ^ 3 := Nat.pow_le_pow_right (by decide) (by omega)
  omega
theorem pow_next {k acc d : Nat} (h : acc < 16 ^ k) (hd : d < 16) : acc * 16 + d < 16 ^ (k + 1) := by
  rw [Nat.pow_succ]; omega

set_option maxHeartbeats 8000000 in
set_option maxRecDepth 100000 in
theorem pu16_any (t : ByteArray) (hne : t.size ≠ 0) (h4 : t.size ≤ 4) (w : World) :
    Calls Tryd.prog 50 #[.string t, .int .i64 16, .int .i64 16] w fun e w' => e = .returned (hexEnd (digs 16 0 t.data.toList)) ∧ Below w.heap.size w w' := by
  have hemp : t.toList.isEmpty = false := by
    rw [← decide_eq_emptyBytes]
    exact decide_eq_false (fun h => hne (by rw [h]; rfl))
  have hcv := Lib.run_convert_string_bytes (P := Tryd.prog) w 9 54 5 t (u := .string) Tryd.underlying9 Tryd.underlying54 Tryd.underlying5
  have HB := Lib.hid (fun j (hj : j < t.size) => Lib.bytesWorld_cell w 5 t j hj)
  have HW : Hid (Below w.heap.size w (Lib.bytesWorld w 5 t)) := by
    show Below w.heap.size w (Lib.bytesWorld w 5 t)
    exact Lib.bytesWorld_below _ _ _
  obtain ⟨W1, hW1⟩ : ∃ W1, W1 = Lib.bytesWorld w 5 t := ⟨_, rfl⟩
  rw [← hW1] at hcv HB HW
  clear hW1
  obtain ⟨bs, hL⟩ : ∃ bs, bs = t.data.toList := ⟨_, rfl⟩
  have hLn : bs.length = t.size := by rw [hL]; simp
  rw [← hL] at HB ⊢
  clear hL
  have hmv : IntKind.u64.wrap (IntKind.u64.wrap 65536 - 1) = 65535 := by
    rw [IntKind.wrap_u64, IntKind.wrap_u64]
    decide
  obtain ⟨R, hR⟩ : ∃ R, digs 16 0 bs = R := ⟨_, rfl⟩
  rw [hR]
  go_enter Tryd.func50, Tryd.ntmps50
  go_wp2
  go_loop [12, 13, 101] (fun vu vn vi => ∃ (k acc : Nat) (a : Int), vu = .bool false ∧ vn = .int .u64 a ∧ vi = .int .i64 k ∧ k ≤ t.size ∧ Hid (a = (acc : Int) ∧ acc < 16 ^ k ∧ R = digs 16 acc (bs.drop k)))
    (fun _ _ vi => t.size - (intOf vi).toNat)
  case atStart => exact ⟨0, 0, 0, rfl, rfl, rfl, by omega, rfl, by decide, hR.symm⟩
  case round =>
    obtain ⟨k, acc, a, rfl, rfl, rfl, hk, hh⟩ := hrel
    by_cases hkn : k < t.size
    · have hc := HB.out k hkn
      have hacc : acc ≤ 4095 := pow_room (by omega) hh.out.2.1
      have ha : a = (acc : Int) := hh.out.1
      have a0 : 0 ≤ a := by omega
      have a1 : a ≤ 4095 := by omega
      have hdrop : bs.drop k = bs[k]'(by omega) :: bs.drop (k + 1) := List.drop_eq_getElem_cons (by omega)
      have hget : bs.getD k 0 = bs[k]'(by omega) := by simp [List.getD, List.getElem?_eq_getElem (show k < bs.length by omega)]
      have hdec := hh.out.2.2
      rw [hdrop] at hdec
      rw [hget] at hc
      generalize bs[k]'(by omega) = c at hc hdec
      have HDec := Lib.hid hdec
      clear hdec hdrop hget hemp hcv hR
      have hc256 : c.toNat < 256 := c.toNat_lt
      obtain ⟨L, hL, hcase⟩ := low_of c.toNat hc256
      have hge : decide ((1152921504606846976 : Int) ≤ a) = false := decide_eq_false (by omega)
      rcases hcase with ⟨d0, d1, hv⟩ | ⟨hnd, h95, l0, l1, hv⟩ | ⟨hnd, h95, l0, l1, hv⟩ | ⟨hnd, h95, l0, l1, hv⟩ | ⟨hnd, h95, l0, l1, hv⟩ | ⟨hnd, h95, l0, l1, hv⟩ | ⟨hnd, h95, l0, l1, hv⟩
      · have HN : Hid (a * 16 + ((c.toNat : Int) - 48) = ((acc * 16 + ((c.toNat : Int) - 48).toNat : Nat) : Int) ∧ acc * 16 + ((c.toNat : Int) - 48).toNat < 16 ^ (k + 1) ∧ R = digs 16 (acc * 16 + ((c.toNat : Int) - 48).toNat) (bs.drop (k + 1))) :=
          Lib.hid ⟨by omega, pow_next hh.out.2.1 (by omega), HDec.out.trans (digs_yes hv (by omega) (by omega))⟩
        clear hv hh HDec ha hacc
        have h95i : ((c.toNat : Int) == 95) = false := beq_eq_false_iff_ne.2 (by omega)
        go_wp2
        go_round
        case rel => exact ⟨k + 1, acc * 16 + ((c.toNat : Int) - 48).toNat, a * 16 + ((c.toNat : Int) - 48), by first | rfl | trivial, by go_num, by go_num, by omega, HN⟩
        case measure => simp [intOf]; omega
      · have HN : Hid (a * 16 + (L - 97 + 10) = ((acc * 16 + (L - 87).toNat : Nat) : Int) ∧ acc * 16 + (L - 87).toNat < 16 ^ (k + 1) ∧ R = digs 16 (acc * 16 + (L - 87).toNat) (bs.drop (k + 1))) :=
          Lib.hid ⟨by omega, pow_next hh.out.2.1 (by omega), HDec.out.trans (digs_yes hv (by omega) (by omega))⟩
        clear hv hh HDec ha hacc
        have h95i : ((c.toNat : Int) == 95) = false := beq_eq_false_iff_ne.2 (by omega)
        have h48 : (48 : Int) ≤ (c.toNat : Int) := by omega
        have h57 : ¬ ((c.toNat : Int) ≤ 57) := by omega
        go_wp2_with (go_at_call 63; refine (lower_is hL _).mono ?_; rintro e w' ⟨rfl, rfl⟩)
        go_round
        case rel => exact ⟨k + 1, acc * 16 + (L - 87).toNat, a * 16 + (L - 97 + 10), by first | rfl | trivial, by go_num, by go_num, by omega, HN⟩
        case measure => simp [intOf]; omega
      · have HN : Hid (R = none) := HDec.out.trans (digs_no hv)
        clear hv hh HDec ha hacc
        have h95i : ((c.toNat : Int) == 95) = false := beq_eq_false_iff_ne.2 (by omega)
        have h48 : (48 : Int) ≤ (c.toNat : Int) := by omega
        have h57 : ¬ ((c.toNat : Int) ≤ 57) := by omega
        go_wp2_with (go_at_call 63; refine (lower_is hL _).mono ?_; rintro e w' ⟨rfl, rfl⟩)
        go_ret2
        exact ⟨by rw [HN.out]; rfl, HW.out⟩
      · have HN : Hid (R = none) := HDec.out.trans (digs_no hv)
        clear hv hh HDec ha hacc
        have h95i : ((c.toNat : Int) == 95) = false := beq_eq_false_iff_ne.2 (by omega)
        have h48 : ¬ ((48 : Int) ≤ (c.toNat : Int)) := by omega
        go_wp2_with (go_at_call 63; refine (lower_is hL _).mono ?_; rintro e w' ⟨rfl, rfl⟩)
        go_ret2
        exact ⟨by rw [HN.out]; rfl, HW.out⟩
      · have HN : Hid (R = none) := HDec.out.trans (digs_no hv)
        clear hv hh HDec ha hacc
        have h95i : ((c.toNat : Int) == 95) = false := beq_eq_false_iff_ne.2 (by omega)
        have h48 : (48 : Int) ≤ (c.toNat : Int) := by omega
        have h57 : ¬ ((c.toNat : Int) ≤ 57) := by omega
        go_wp2_with (go_at_call 63; refine (lower_is hL _).mono ?_; rintro e w' ⟨rfl, rfl⟩)
        go_ret2
        exact ⟨by rw [HN.out]; rfl, HW.out⟩
      · have HN : Hid (R = none) := HDec.out.trans (digs_no hv)
        clear hv hh HDec ha hacc
        have h95i : ((c.toNat : Int) == 95) = false := beq_eq_false_iff_ne.2 (by omega)
        have h48 : (48 : Int) ≤ (c.toNat : Int) := by omega
        have h57 : ¬ ((c.toNat : Int) ≤ 57) := by omega
        go_wp2_with (go_at_call 63; refine (lower_is hL _).mono ?_; rintro e w' ⟨rfl, rfl⟩)
        go_ret2
        exact ⟨by rw [HN.out]; rfl, HW.out⟩
      · have HN : Hid (R = none) := HDec.out.trans (digs_no hv)
        clear hv hh HDec ha hacc
        have hc95 : (c.toNat : Int) = 95 := by omega
        rw [hc95] at hc
        clear hL l0 l1 hnd h95 hc256 hc95
        go_wp2_with (go_at_call 63; refine (lower_is (L := 127) (by decide) _).mono ?_; rintro e w' ⟨rfl, rfl⟩)
        go_ret2
        exact ⟨by rw [HN.out]; rfl, HW.out⟩
    · have HN : Hid (R = some acc) := by
        show R = some acc
        rw [hh.out.2.2, List.drop_eq_nil_of_le (by omega)]; rfl
      have HA := Lib.hid hh.out.1
      clear hh hR
      go_wp2
      go_ret2
      exact ⟨by rw [HN.out, HA.out]; rfl, HW.out⟩
end Go.Proofs.YtfodkkdggajjaaaDoor

/-
  The shelf's layings at this dump: strings.Cut, Contains, Join, strconv.ParseUint, bits.TrailingZeros.
-/
namespace Go.Proofs.YtfodkkdggajjaaaDoor
open Go.Shelf
def lays145_ren : Go.Shelf.Ren := ⟨fun | 145 => 17 | 220 => 25 | 219 => 34 | 217 => 45 | 225 => 46 | 224 => 47 | 267 => 48 | 266 => 59 | 314 => 60 | n => n, fun | 9 => 9 | 4 => 4 | 59 => 44 | 3 => 3 | 5 => 5 | 46 => 86 | 146 => 112 | 51 => 105 | n => n, fun | 1 => 0 | n => n⟩
theorem lays145 : Go.Proofs.Lays.n145 Tryd.prog lays145_ren := {
  mixed := by kernel_rfl
  f145 := Tryd.func17.trans (congrArg some (by kernel_rfl))
  f217 := Tryd.func45.trans (congrArg some (by kernel_rfl))
  f219 := Tryd.func34.trans (congrArg some (by kernel_rfl))
  f220 := Tryd.func25.trans (congrArg some (by kernel_rfl))
  f224 := Tryd.func47.trans (congrArg some (by kernel_rfl))
  f225 := Tryd.func46.trans (congrArg some (by kernel_rfl))
  f266 := Tryd.func59.trans (congrArg some (by kernel_rfl))
  f267 := Tryd.func48.trans (congrArg some (by kernel_rfl))
  f314 := Tryd.func60.trans (congrArg some (by kernel_rfl))
  t3 := Tryd.underlying3
  a3 := Tryd.isAgg3
  z3 := Tryd.sizeOf3
  v3 := Tryd.zeroValue3
  t4 := Tryd.underlying4
  a4 := Tryd.isAgg4
  z4 := Tryd.sizeOf4
  v4 := Tryd.zeroValue4
  t5 := Tryd.underlying5
  a5 := Tryd.isAgg5
  z5 := Tryd.sizeOf5
  v5 := Tryd.zeroValue5
  t9 := Tryd.underlying9
  a9 := Tryd.isAgg9
  z9 := Tryd.sizeOf9
  v9 := Tryd.zeroValue9
  t46 := Tryd.underlying86
  a46 := Tryd.isAgg86
  z46 := Tryd.sizeOf86
  v46 := Tryd.zeroValue86
  t51 := Tryd.underlying105
  a51 := Tryd.isAgg105
  z51 := Tryd.sizeOf105
  v51 := Tryd.zeroValue105
  t59 := Tryd.underlying44
  a59 := Tryd.isAgg44
  z59 := Tryd.sizeOf44
  v59 := Tryd.zeroValue44
  t146 := Tryd.underlying112
  a146 := Tryd.isAgg112
  z146 := Tryd.sizeOf112
  v146 := Tryd.zeroValue112
  g1 := by kernel_rfl }
def lays144_ren : Go.Shelf.Ren := ⟨fun | 144 => 26 | 143 => 35 | 219 => 34 | 217 => 45 | 225 => 46 | 224 => 47 | 267 => 48 | 266 => 59 | 314 => 60 | n => n, fun | 9 => 9 | 4 => 4 | 3 => 3 | 5 => 5 | 46 => 86 | 146 => 112 | 51 => 105 | n => n, fun | 1 => 0 | n => n⟩
theorem lays144 : Go.Proofs.Lays.n144 Tryd.prog lays144_ren := {
  mixed := by kernel_rfl
  f143 := Tryd.func35.trans (congrArg some (by kernel_rfl))
  f144 := Tryd.func26.trans (congrArg some (by kernel_rfl))
  f217 := Tryd.func45.trans (congrArg some (by kernel_rfl))
  f219 := Tryd.func34.trans (congrArg some (by kernel_rfl))
  f224 := Tryd.func47.trans (congrArg some (by kernel_rfl))
  f225 := Tryd.func46.trans (congrArg some (by kernel_rfl))
  f266 := Tryd.func59.trans (congrArg some (by kernel_rfl))
  f267 := Tryd.func48.trans (congrArg some (by kernel_rfl))
  f314 := Tryd.func60.trans (congrArg some (by kernel_rfl))
  t3 := Tryd.underlying3
  a3 := Tryd.isAgg3
  z3 := Tryd.sizeOf3
  v3 := Tryd.zeroValue3
  t4 := Tryd.underlying4
  a4 := Tryd.isAgg4
  z4 := Tryd.sizeOf4
  v4 := Tryd.zeroValue4
  t5 := Tryd.underlying5
  a5 := Tryd.isAgg5
  z5 := Tryd.sizeOf5
  v5 := Tryd.zeroValue5
  t9 := Tryd.underlying9
  a9 := Tryd.isAgg9
  z9 := Tryd.sizeOf9
  v9 := Tryd.zeroValue9
  t46 := Tryd.underlying86
  a46 := Tryd.isAgg86
  z46 := Tryd.sizeOf86
  v46 := Tryd.zeroValue86
  t51 := Tryd.underlying105
  a51 := Tryd.isAgg105
  z51 := Tryd.sizeOf105
  v51 := Tryd.zeroValue105
  t146 := Tryd.underlying112
  a146 := Tryd.isAgg112
  z146 := Tryd.sizeOf112
  v146 := Tryd.zeroValue112
  g1 := by kernel_rfl }
def lays156_ren : Go.Shelf.Ren := ⟨fun | 156 => 24 | 165 => 31 | 166 => 32 | 169 => 33 | 240 => 43 | 241 => 44 | 276 => 57 | 277 => 58 | n => n, fun | 31 => 55 | 9 => 9 | 3 => 3 | 4 => 4 | 0 => 0 | 20 => 20 | 72 => 78 | 76 => 80 | 70 => 76 | 37 => 54 | 75 => 28 | 127 => 98 | 164 => 109 | 5 => 5 | 80 => 82 | n => n, fun | n => n⟩
theorem lays156 : Go.Proofs.Lays.n156 Tryd.prog lays156_ren := {
  mixed := by kernel_rfl
  f156 := Tryd.func24.trans (congrArg some (by kernel_rfl))
  f165 := Tryd.func31.trans (congrArg some (by kernel_rfl))
  f166 := Tryd.func32.trans (congrArg some (by kernel_rfl))
  f169 := Tryd.func33.trans (congrArg some (by kernel_rfl))
  f240 := Tryd.func43.trans (congrArg some (by kernel_rfl))
  f241 := Tryd.func44.trans (congrArg some (by kernel_rfl))
  f276 := Tryd.func57.trans (congrArg some (by kernel_rfl))
  f277 := Tryd.func58.trans (congrArg some (by kernel_rfl))
  t0 := Tryd.underlying0
  a0 := Tryd.isAgg0
  z0 := Tryd.sizeOf0
  v0 := Tryd.zeroValue0
  t3 := Tryd.underlying3
  a3 := Tryd.isAgg3
  z3 := Tryd.sizeOf3
  v3 := Tryd.zeroValue3
  t4 := Tryd.underlying4
  a4 := Tryd.isAgg4
  z4 := Tryd.sizeOf4
  v4 := Tryd.zeroValue4
  t9 := Tryd.underlying9
  a9 := Tryd.isAgg9
  z9 := Tryd.sizeOf9
  v9 := Tryd.zeroValue9
  t20 := Tryd.underlying20
  a20 := Tryd.isAgg20
  z20 := Tryd.sizeOf20
  v20 := Tryd.zeroValue20
  t31 := Tryd.underlying55
  a31 := Tryd.isAgg55
  z31 := Tryd.sizeOf55
  v31 := Tryd.zeroValue55
  t37 := Tryd.underlying54
  a37 := Tryd.isAgg54
  z37 := Tryd.sizeOf54
  v37 := Tryd.zeroValue54
  t70 := Tryd.underlying76
  a70 := Tryd.isAgg76
  z70 := Tryd.sizeOf76
  v70 := Tryd.zeroValue76
  t72 := Tryd.underlying78
  a72 := Tryd.isAgg78
  z72 := Tryd.sizeOf78
  v72 := Tryd.zeroValue78
  t75 := Tryd.underlying28
  a75 := Tryd.isAgg28
  z75 := Tryd.sizeOf28
  v75 := Tryd.zeroValue28
  t76 := Tryd.underlying80
  a76 := Tryd.isAgg80
  z76 := Tryd.sizeOf80
  v76 := Tryd.zeroValue80
  t127 := Tryd.underlying98
  a127 := Tryd.isAgg98
  z127 := Tryd.sizeOf98
  v127 := Tryd.zeroValue98
  t164 := Tryd.underlying109
  a164 := Tryd.isAgg109
  z164 := Tryd.sizeOf109
  v164 := Tryd.zeroValue109 }
def lays14_ren : Go.Shelf.Ren := ⟨fun | 14 => 38 | 16 => 50 | 17 => 51 | 19 => 63 | 20 => 64 | 21 => 65 | 22 => 66 | 23 => 67 | 24 => 68 | 25 => 74 | 27 => 76 | 26 => 75 | 28 => 78 | 29 => 79 | 30 => 39 | 31 => 40 | 32 => 41 | 33 => 42 | 35 => 53 | 34 => 52 | 36 => 54 | 37 => 55 | 38 => 56 | 39 => 69 | 40 => 70 | n => n, fun | 9 => 9 | 3 => 3 | 22 => 57 | 24 => 28 | 25 => 87 | 4 => 4 | 34 => 115 | 5 => 5 | 36 => 86 | 37 => 54 | 0 => 0 | 39 => 117 | 21 => 21 | 44 => 126 | 47 => 98 | 50 => 132 | 48 => 130 | 2 => 2 | 52 => 93 | 55 => 96 | 59 => 104 | 60 => 105 | 20 => 20 | 61 => 106 | 65 => 128 | 66 => 129 | 67 => 82 | n => n, fun | 0 => 2 | 1 => 3 | 2 => 1 | 3 => 4 | 4 => 5 | n => n⟩
theorem lays14 : Go.Proofs.LaysPu.n14 Tryd.prog lays14_ren := {
  mixed := by kernel_rfl
  f14 := Tryd.func38.trans (congrArg some (by kernel_rfl))
  f16 := Tryd.func50.trans (congrArg some (by kernel_rfl))
  f17 := Tryd.func51.trans (congrArg some (by kernel_rfl))
  f19 := Tryd.func63.trans (congrArg some (by kernel_rfl))
  f20 := Tryd.func64.trans (congrArg some (by kernel_rfl))
  f21 := Tryd.func65.trans (congrArg some (by kernel_rfl))
  f22 := Tryd.func66.trans (congrArg some (by kernel_rfl))
  f23 := Tryd.func67.trans (congrArg some (by kernel_rfl))
  f24 := Tryd.func68.trans (congrArg some (by kernel_rfl))
  f25 := Tryd.func74.trans (congrArg some (by kernel_rfl))
  f26 := Tryd.func75.trans (congrArg some (by kernel_rfl))
  f27 := Tryd.func76.trans (congrArg some (by kernel_rfl))
  f28 := Tryd.func78.trans (congrArg some (by kernel_rfl))
  f29 := Tryd.func79.trans (congrArg some (by kernel_rfl))
  f30 := Tryd.func39.trans (congrArg some (by kernel_rfl))
  f31 := Tryd.func40.trans (congrArg some (by kernel_rfl))
  f32 := Tryd.func41.trans (congrArg some (by kernel_rfl))
  f33 := Tryd.func42.trans (congrArg some (by kernel_rfl))
  f34 := Tryd.func52.trans (congrArg some (by kernel_rfl))
  f35 := Tryd.func53.trans (congrArg some (by kernel_rfl))
  f36 := Tryd.func54.trans (congrArg some (by kernel_rfl))
  f37 := Tryd.func55.trans (congrArg some (by kernel_rfl))
  f38 := Tryd.func56.trans (congrArg some (by kernel_rfl))
  f39 := Tryd.func69.trans (congrArg some (by kernel_rfl))
  f40 := Tryd.func70.trans (congrArg some (by kernel_rfl))
  t0 := Tryd.underlying0
  a0 := Tryd.isAgg0
  z0 := Tryd.sizeOf0
  v0 := Tryd.zeroValue0
  i0 := by kernel_rfl
  t2 := Tryd.underlying2
  a2 := Tryd.isAgg2
  z2 := Tryd.sizeOf2
  v2 := Tryd.zeroValue2
  i2 := by kernel_rfl
  t3 := Tryd.underlying3
  a3 := Tryd.isAgg3
  z3 := Tryd.sizeOf3
  v3 := Tryd.zeroValue3
  i3 := by kernel_rfl
  t4 := Tryd.underlying4
  a4 := Tryd.isAgg4
  z4 := Tryd.sizeOf4
  v4 := Tryd.zeroValue4
  i4 := by kernel_rfl
  t5 := Tryd.underlying5
  a5 := Tryd.isAgg5
  z5 := Tryd.sizeOf5
  v5 := Tryd.zeroValue5
  i5 := by kernel_rfl
  t9 := Tryd.underlying9
  a9 := Tryd.isAgg9
  z9 := Tryd.sizeOf9
  v9 := Tryd.zeroValue9
  i9 := by kernel_rfl
  t20 := Tryd.underlying20
  a20 := Tryd.isAgg20
  z20 := Tryd.sizeOf20
  v20 := Tryd.zeroValue20
  i20 := by kernel_rfl
  t21 := Tryd.underlying21
  a21 := Tryd.isAgg21
  z21 := Tryd.sizeOf21
  v21 := Tryd.zeroValue21
  i21 := by kernel_rfl
  t22 := Tryd.underlying57
  a22 := Tryd.isAgg57
  z22 := Tryd.sizeOf57
  v22 := Tryd.zeroValue57
  i22 := by kernel_rfl
  t24 := Tryd.underlying28
  a24 := Tryd.isAgg28
  z24 := Tryd.sizeOf28
  v24 := Tryd.zeroValue28
  i24 := by kernel_rfl
  t25 := Tryd.underlying87
  a25 := Tryd.isAgg87
  z25 := Tryd.sizeOf87
  v25 := Tryd.zeroValue87
  i25 := by kernel_rfl
  t34 := Tryd.underlying115
  a34 := Tryd.isAgg115
  z34 := Tryd.sizeOf115
  v34 := Tryd.zeroValue115
  i34 := by kernel_rfl
  c34 := by kernel_rfl
  t36 := Tryd.underlying86
  a36 := Tryd.isAgg86
  z36 := Tryd.sizeOf86
  v36 := Tryd.zeroValue86
  i36 := by kernel_rfl
  t37 := Tryd.underlying54
  a37 := Tryd.isAgg54
  z37 := Tryd.sizeOf54
  v37 := Tryd.zeroValue54
  i37 := by kernel_rfl
  t39 := Tryd.underlying117
  a39 := Tryd.isAgg117
  z39 := Tryd.sizeOf117
  v39 := Tryd.zeroValue117
  i39 := by kernel_rfl
  t44 := Tryd.underlying126
  a44 := Tryd.isAgg126
  z44 := Tryd.sizeOf126
  v44 := Tryd.zeroValue126
  i44 := by kernel_rfl
  t47 := Tryd.underlying98
  a47 := Tryd.isAgg98
  z47 := Tryd.sizeOf98
  v47 := Tryd.zeroValue98
  i47 := by kernel_rfl
  t48 := Tryd.underlying130
  a48 := Tryd.isAgg130
  z48 := Tryd.sizeOf130
  v48 := Tryd.zeroValue130
  i48 := by kernel_rfl
  t50 := Tryd.underlying132
  a50 := Tryd.isAgg132
  z50 := Tryd.sizeOf132
  v50 := Tryd.zeroValue132
  i50 := by kernel_rfl
  t52 := Tryd.underlying93
  a52 := Tryd.isAgg93
  z52 := Tryd.sizeOf93
  v52 := Tryd.zeroValue93
  i52 := by kernel_rfl
  t55 := Tryd.underlying96
  a55 := Tryd.isAgg96
  z55 := Tryd.sizeOf96
  v55 := Tryd.zeroValue96
  i55 := by kernel_rfl
  t59 := Tryd.underlying104
  a59 := Tryd.isAgg104
  z59 := Tryd.sizeOf104
  v59 := Tryd.zeroValue104
  i59 := by kernel_rfl
  t60 := Tryd.underlying105
  a60 := Tryd.isAgg105
  z60 := Tryd.sizeOf105
  v60 := Tryd.zeroValue105
  i60 := by kernel_rfl
  t61 := Tryd.underlying106
  a61 := Tryd.isAgg106
  z61 := Tryd.sizeOf106
  t65 := Tryd.underlying128
  a65 := Tryd.isAgg128
  z65 := Tryd.sizeOf128
  v65 := Tryd.zeroValue128
  i65 := by kernel_rfl
  t66 := Tryd.underlying129
  a66 := Tryd.isAgg129
  z66 := Tryd.sizeOf129
  v66 := Tryd.zeroValue129
  i66 := by kernel_rfl
  t67 := Tryd.underlying82
  a67 := Tryd.isAgg82
  z67 := Tryd.sizeOf82
  v67 := Tryd.zeroValue82
  i67 := by kernel_rfl
  g0 := by kernel_rfl
  m0 := by kernel_rfl
  g1 := by kernel_rfl
  m1 := by kernel_rfl
  g2 := by kernel_rfl
  m2 := by kernel_rfl
  g3 := by kernel_rfl
  m3 := by kernel_rfl
  g4 := by kernel_rfl
  m4 := by kernel_rfl }
def lays27_ren : Go.Shelf.Ren := ⟨fun | 27 => 56 | 28 => 69 | 29 => 70 | n => n, fun | 25 => 86 | 3 => 3 | 27 => 105 | 22 => 57 | 4 => 4 | 53 => 128 | 0 => 0 | 5 => 5 | 54 => 129 | n => n, fun | 0 => 4 | 1 => 5 | n => n⟩
theorem lays27 : Go.Proofs.Lays7.n27 Tryd.prog lays27_ren := {
  mixed := by kernel_rfl
  f27 := Tryd.func56.trans (congrArg some (by kernel_rfl))
  f28 := Tryd.func69.trans (congrArg some (by kernel_rfl))
  f29 := Tryd.func70.trans (congrArg some (by kernel_rfl))
  t0 := Tryd.underlying0
  a0 := Tryd.isAgg0
  z0 := Tryd.sizeOf0
  v0 := Tryd.zeroValue0
  i0 := by kernel_rfl
  t3 := Tryd.underlying3
  a3 := Tryd.isAgg3
  z3 := Tryd.sizeOf3
  v3 := Tryd.zeroValue3
  i3 := by kernel_rfl
  t4 := Tryd.underlying4
  a4 := Tryd.isAgg4
  z4 := Tryd.sizeOf4
  v4 := Tryd.zeroValue4
  i4 := by kernel_rfl
  t5 := Tryd.underlying5
  a5 := Tryd.isAgg5
  z5 := Tryd.sizeOf5
  v5 := Tryd.zeroValue5
  i5 := by kernel_rfl
  t22 := Tryd.underlying57
  a22 := Tryd.isAgg57
  z22 := Tryd.sizeOf57
  v22 := Tryd.zeroValue57
  i22 := by kernel_rfl
  t25 := Tryd.underlying86
  a25 := Tryd.isAgg86
  z25 := Tryd.sizeOf86
  v25 := Tryd.zeroValue86
  i25 := by kernel_rfl
  t27 := Tryd.underlying105
  a27 := Tryd.isAgg105
  z27 := Tryd.sizeOf105
  v27 := Tryd.zeroValue105
  i27 := by kernel_rfl
  t53 := Tryd.underlying128
  a53 := Tryd.isAgg128
  z53 := Tryd.sizeOf128
  v53 := Tryd.zeroValue128
  i53 := by kernel_rfl
  t54 := Tryd.underlying129
  a54 := Tryd.isAgg129
  z54 := Tryd.sizeOf129
  g0 := by kernel_rfl
  g1 := by kernel_rfl }
end Go.Proofs.YtfodkkdggajjaaaDoor

/-
  The shelf's layings at this dump: strings.SplitN, strconv.Itoa.
-/
namespace Go.Proofs.YtfodkkdggajjaaaDoor
open Go.Shelf
def lays147_ren : Go.Shelf.Ren := ⟨fun | 147 => 36 | 221 => 49 | 268 => 61 | 138 => 62 | 143 => 35 | 195 => 71 | 197 => 72 | 218 => 73 | 219 => 34 | 260 => 77 | 217 => 45 | 225 => 46 | 224 => 47 | 267 => 48 | 266 => 59 | 314 => 60 | n => n, fun | 9 => 9 | 3 => 3 | 31 => 55 | 4 => 4 | 0 => 0 | 105 => 122 | 21 => 21 | 5 => 5 | 46 => 86 | 119 => 133 | 139 => 136 | 138 => 135 | 146 => 112 | 51 => 105 | n => n, fun | 1 => 0 | 3 => 6 | 4 => 7 | n => n⟩
theorem lays147 : Go.Proofs.Lays.n147 Tryd.prog lays147_ren := {
  mixed := by kernel_rfl
  f138 := Tryd.func62.trans (congrArg some (by kernel_rfl))
  f143 := Tryd.func35.trans (congrArg some (by kernel_rfl))
  f147 := Tryd.func36.trans (congrArg some (by kernel_rfl))
  f195 := Tryd.func71.trans (congrArg some (by kernel_rfl))
  f197 := Tryd.func72.trans (congrArg some (by kernel_rfl))
  f217 := Tryd.func45.trans (congrArg some (by kernel_rfl))
  f218 := Tryd.func73.trans (congrArg some (by kernel_rfl))
  f219 := Tryd.func34.trans (congrArg some (by kernel_rfl))
  f221 := Tryd.func49.trans (congrArg some (by kernel_rfl))
  f224 := Tryd.func47.trans (congrArg some (by kernel_rfl))
  f225 := Tryd.func46.trans (congrArg some (by kernel_rfl))
  f260 := Tryd.func77.trans (congrArg some (by kernel_rfl))
  f266 := Tryd.func59.trans (congrArg some (by kernel_rfl))
  f267 := Tryd.func48.trans (congrArg some (by kernel_rfl))
  f268 := Tryd.func61.trans (congrArg some (by kernel_rfl))
  f314 := Tryd.func60.trans (congrArg some (by kernel_rfl))
  t0 := Tryd.underlying0
  a0 := Tryd.isAgg0
  z0 := Tryd.sizeOf0
  v0 := Tryd.zeroValue0
  t3 := Tryd.underlying3
  a3 := Tryd.isAgg3
  z3 := Tryd.sizeOf3
  v3 := Tryd.zeroValue3
  t4 := Tryd.underlying4
  a4 := Tryd.isAgg4
  z4 := Tryd.sizeOf4
  v4 := Tryd.zeroValue4
  t5 := Tryd.underlying5
  a5 := Tryd.isAgg5
  z5 := Tryd.sizeOf5
  v5 := Tryd.zeroValue5
  t9 := Tryd.underlying9
  a9 := Tryd.isAgg9
  z9 := Tryd.sizeOf9
  v9 := Tryd.zeroValue9
  t21 := Tryd.underlying21
  a21 := Tryd.isAgg21
  z21 := Tryd.sizeOf21
  v21 := Tryd.zeroValue21
  t31 := Tryd.underlying55
  a31 := Tryd.isAgg55
  z31 := Tryd.sizeOf55
  v31 := Tryd.zeroValue55
  t46 := Tryd.underlying86
  a46 := Tryd.isAgg86
  z46 := Tryd.sizeOf86
  v46 := Tryd.zeroValue86
  t51 := Tryd.underlying105
  a51 := Tryd.isAgg105
  z51 := Tryd.sizeOf105
  v51 := Tryd.zeroValue105
  t105 := Tryd.underlying122
  a105 := Tryd.isAgg122
  z105 := Tryd.sizeOf122
  v105 := Tryd.zeroValue122
  t119 := Tryd.underlying133
  a119 := Tryd.isAgg133
  z119 := Tryd.sizeOf133
  t138 := Tryd.underlying135
  a138 := Tryd.isAgg135
  z138 := Tryd.sizeOf135
  v138 := Tryd.zeroValue135
  t139 := Tryd.underlying136
  a139 := Tryd.isAgg136
  z139 := Tryd.sizeOf136
  v139 := Tryd.zeroValue136
  t146 := Tryd.underlying112
  a146 := Tryd.isAgg112
  z146 := Tryd.sizeOf112
  v146 := Tryd.zeroValue112
  g1 := by kernel_rfl
  g3 := by kernel_rfl
  g4 := by kernel_rfl }
def lays171_ren : Go.Shelf.Ren := ⟨fun | 171 => 76 | 243 => 78 | 246 => 79 | 283 => 39 | 284 => 40 | 285 => 41 | 286 => 42 | 129 => 53 | 317 => 52 | 318 => 54 | 319 => 55 | 320 => 56 | 337 => 69 | 338 => 70 | n => n, fun | 3 => 3 | 9 => 9 | 2 => 2 | 4 => 4 | 171 => 93 | 0 => 0 | 53 => 57 | 37 => 54 | 5 => 5 | 173 => 96 | 212 => 104 | 51 => 105 | 20 => 20 | 213 => 106 | 46 => 86 | 232 => 128 | 233 => 129 | n => n, fun | 17 => 1 | 18 => 4 | 19 => 5 | n => n⟩
theorem lays171 : Go.Proofs.LaysM.n171 Tryd.prog lays171_ren := {
  mixed := by kernel_rfl
  f129 := Tryd.func53.trans (congrArg some (by kernel_rfl))
  f171 := Tryd.func76.trans (congrArg some (by kernel_rfl))
  f243 := Tryd.func78.trans (congrArg some (by kernel_rfl))
  f246 := Tryd.func79.trans (congrArg some (by kernel_rfl))
  f283 := Tryd.func39.trans (congrArg some (by kernel_rfl))
  f284 := Tryd.func40.trans (congrArg some (by kernel_rfl))
  f285 := Tryd.func41.trans (congrArg some (by kernel_rfl))
  f286 := Tryd.func42.trans (congrArg some (by kernel_rfl))
  f317 := Tryd.func52.trans (congrArg some (by kernel_rfl))
  f318 := Tryd.func54.trans (congrArg some (by kernel_rfl))
  f319 := Tryd.func55.trans (congrArg some (by kernel_rfl))
  f320 := Tryd.func56.trans (congrArg some (by kernel_rfl))
  f337 := Tryd.func69.trans (congrArg some (by kernel_rfl))
  f338 := Tryd.func70.trans (congrArg some (by kernel_rfl))
  t0 := Tryd.underlying0
  a0 := Tryd.isAgg0
  z0 := Tryd.sizeOf0
  v0 := Tryd.zeroValue0
  t2 := Tryd.underlying2
  a2 := Tryd.isAgg2
  z2 := Tryd.sizeOf2
  v2 := Tryd.zeroValue2
  t3 := Tryd.underlying3
  a3 := Tryd.isAgg3
  z3 := Tryd.sizeOf3
  v3 := Tryd.zeroValue3
  t4 := Tryd.underlying4
  a4 := Tryd.isAgg4
  z4 := Tryd.sizeOf4
  v4 := Tryd.zeroValue4
  t5 := Tryd.underlying5
  a5 := Tryd.isAgg5
  z5 := Tryd.sizeOf5
  v5 := Tryd.zeroValue5
  t9 := Tryd.underlying9
  a9 := Tryd.isAgg9
  z9 := Tryd.sizeOf9
  v9 := Tryd.zeroValue9
  t20 := Tryd.underlying20
  a20 := Tryd.isAgg20
  z20 := Tryd.sizeOf20
  v20 := Tryd.zeroValue20
  t37 := Tryd.underlying54
  a37 := Tryd.isAgg54
  z37 := Tryd.sizeOf54
  v37 := Tryd.zeroValue54
  t46 := Tryd.underlying86
  a46 := Tryd.isAgg86
  z46 := Tryd.sizeOf86
  v46 := Tryd.zeroValue86
  t51 := Tryd.underlying105
  a51 := Tryd.isAgg105
  z51 := Tryd.sizeOf105
  v51 := Tryd.zeroValue105
  t53 := Tryd.underlying57
  a53 := Tryd.isAgg57
  z53 := Tryd.sizeOf57
  v53 := Tryd.zeroValue57
  t171 := Tryd.underlying93
  a171 := Tryd.isAgg93
  z171 := Tryd.sizeOf93
  v171 := Tryd.zeroValue93
  t173 := Tryd.underlying96
  a173 := Tryd.isAgg96
  z173 := Tryd.sizeOf96
  v173 := Tryd.zeroValue96
  t212 := Tryd.underlying104
  a212 := Tryd.isAgg104
  z212 := Tryd.sizeOf104
  v212 := Tryd.zeroValue104
  t213 := Tryd.underlying106
  a213 := Tryd.isAgg106
  z213 := Tryd.sizeOf106
  t232 := Tryd.underlying128
  a232 := Tryd.isAgg128
  z232 := Tryd.sizeOf128
  v232 := Tryd.zeroValue128
  t233 := Tryd.underlying129
  a233 := Tryd.isAgg129
  z233 := Tryd.sizeOf129
  v233 := Tryd.zeroValue129
  g17 := by kernel_rfl
  g18 := by kernel_rfl
  g19 := by kernel_rfl
  i0 := by kernel_rfl
  i2 := by kernel_rfl
  i3 := by kernel_rfl
  i4 := by kernel_rfl
  i5 := by kernel_rfl
  i9 := by kernel_rfl
  i20 := by kernel_rfl
  i37 := by kernel_rfl
  i46 := by kernel_rfl
  i51 := by kernel_rfl
  i53 := by kernel_rfl
  i171 := by kernel_rfl
  i173 := by kernel_rfl
  i212 := by kernel_rfl
  i232 := by kernel_rfl
  i233 := by kernel_rfl
  m17 := by kernel_rfl
  m18 := by kernel_rfl
  m19 := by kernel_rfl }
end Go.Proofs.YtfodkkdggajjaaaDoor

/-
  The document's number of layer 7, by its contract.
-/
namespace Go.Proofs.YtfodkkdggajjaaaDoor
open Go.RowKit

/-- A number stops at 2^40. -/
def cap7 (n : Nat) : Nat := if 1099511627776 < n then 1099511627776 else n
def numI (s : List UInt8) : Int := match num7 s with
  | none => -1
  | some n => cap7 n
theorem cap7_le (n : Nat) : cap7 n ≤ 1099511627776 := by unfold cap7; split <;> omega
theorem cap7_step (v base d : Nat) (hb : 1 ≤ base) : cap7 (v * base + d) = cap7 (cap7 v * base + d) := by
  by_cases h : 1099511627776 < v
  · have h1 : v * 1 ≤ v * base := Nat.mul_le_mul_left _ hb
    have h2 : 1099511627776 * 1 ≤ 1099511627776 * base := Nat.mul_le_mul_left _ hb
    have e : cap7 v = 1099511627776 := by unfold cap7; rw [if_pos h]
    rw [e]
    unfold cap7
    split
    · split <;> omega
    · omega
  · have e : cap7 v = v := by unfold cap7; rw [if_neg h]
    rw [e]
theorem take_sub {l : List UInt8} {m k : Nat} (h : k < l.length) (hm : m ≤ k) : (l.drop m).take (k + 1 - m) = (l.drop m).take (k - m) ++ [l[k]] := by
  rw [show k + 1 - m = (k - m) + 1 by omega, List.take_succ_eq_append_getElem (by rw [List.length_drop]; omega)]
  congr 2
  rw [List.getElem_drop]
  congr 1
  omega
theorem digs_good {base v : Nat} {l : List UInt8} {b : UInt8} (h : digs base 0 l = some v) (h0 : 0 ≤ val b.toNat) (h1 : val b.toNat < base) : digs base 0 (l ++ [b]) = some (v * base + (val b.toNat).toNat) := by
  rw [digs_append, h]
  show digs base v [b] = _
  unfold digs
  rw [if_pos ⟨h0, h1⟩]
  rfl
theorem digs_bad {base v : Nat} {l : List UInt8} {b : UInt8} (h : digs base 0 l = some v) (h0 : ¬ (0 ≤ val b.toNat ∧ val b.toNat < base)) (r : List UInt8) : digs base 0 ((l ++ [b]) ++ r) = none := by
  rw [digs_append, digs_append, h]
  show (digs base v [b]).bind _ = none
  have : digs base v [b] = none := by unfold digs; rw [if_neg h0]
  rw [this]
  rfl
theorem num7_of {s t : List UInt8} {base : Nat} (hs : s ≠ []) (hb : base7 s = (base, t)) : num7 s = digs base 0 t := by
  unfold num7
  rw [if_neg hs, hb]
theorem val_le (b : UInt8) : -1 ≤ val b.toNat ∧ val b.toNat ≤ 15 := by
  unfold val
  repeat' split
  all_goals omega
theorem base_a {s : ByteArray} (h : 1 < s.size) (h0 : (s[0]'(by omega)).toNat = 48) (h1 : (s[1]'h).toNat = 120 ∨ (s[1]'h).toNat = 88) : base7 s.data.toList = (16, s.data.toList.drop 2) := by
  obtain ⟨x, y, t, e⟩ : ∃ x y t, s.data.toList = x :: y :: t := by
    match hl : s.data.toList with
    | [] => have : s.data.toList.length = s.size := by simp
            rw [hl] at this; simp at this; omega
    | [_] => have : s.data.toList.length = s.size := by simp
             rw [hl] at this; simp at this; omega
    | x :: y :: t => exact ⟨x, y, t, rfl⟩
  have e0 : s[0]'(by omega) = x := by
    have : s.data.toList[0]? = some x := by rw [e]; rfl
    have h2 : s.data.toList[0]? = some (s[0]'(by omega)) := by rw [Array.getElem?_toList]; exact Array.getElem?_eq_getElem _
    exact Option.some.inj (h2.symm.trans this)
  have e1 : s[1]'h = y := by
    have : s.data.toList[1]? = some y := by rw [e]; rfl
    have h2 : s.data.toList[1]? = some (s[1]'h) := by rw [Array.getElem?_toList]; exact Array.getElem?_eq_getElem _
    exact Option.some.inj (h2.symm.trans this)
  rw [e0] at h0
  rw [e1] at h1
  have hx : x = 48 := UInt8.toNat_inj.1 h0
  have hy : y = 120 ∨ y = 88 := h1.elim (fun h => .inl (UInt8.toNat_inj.1 h)) (fun h => .inr (UInt8.toNat_inj.1 h))
  rw [e, hx]
  show (if y = 120 ∨ y = 88 then (16, t) else (8, y :: t)) = _
  rw [if_pos hy]
  rfl
theorem base_b {s : ByteArray} (h : 1 < s.size) (h0 : (s[0]'(by omega)).toNat = 48) (h1 : ¬ ((s[1]'h).toNat = 120 ∨ (s[1]'h).toNat = 88)) : base7 s.data.toList = (8, s.data.toList.drop 1) := by
  obtain ⟨x, y, t, e⟩ : ∃ x y t, s.data.toList = x :: y :: t := by
    match hl : s.data.toList with
    | [] => have : s.data.toList.length = s.size := by simp
            rw [hl] at this; simp at this; omega
    | [_] => have : s.data.toList.length = s.size := by simp
             rw [hl] at this; simp at this; omega
    | x :: y :: t => exact ⟨x, y, t, rfl⟩
  have e0 : s[0]'(by omega) = x := by
    have : s.data.toList[0]? = some x := by rw [e]; rfl
    have h2 : s.data.toList[0]? = some (s[0]'(by omega)) := by rw [Array.getElem?_toList]; exact Array.getElem?_eq_getElem _
    exact Option.some.inj (h2.symm.trans this)
  have e1 : s[1]'h = y := by
    have : s.data.toList[1]? = some y := by rw [e]; rfl
    have h2 : s.data.toList[1]? = some (s[1]'h) := by rw [Array.getElem?_toList]; exact Array.getElem?_eq_getElem _
    exact Option.some.inj (h2.symm.trans this)
  rw [e0] at h0
  rw [e1] at h1
  have hx : x = 48 := UInt8.toNat_inj.1 h0
  have hy : ¬ (y = 120 ∨ y = 88) := fun h => h1 (h.elim (fun h => .inl (by rw [h]; rfl)) (fun h => .inr (by rw [h]; rfl)))
  rw [e, hx]
  show (if y = 120 ∨ y = 88 then (16, t) else (8, y :: t)) = _
  rw [if_neg hy]
  rfl
theorem base_c {s : ByteArray} (h : s.size = 1 ∨ ∃ h : 0 < s.size, ¬ (s[0]'h).toNat = 48) : base7 s.data.toList = (10, s.data.toList.drop 0) := by
  rw [List.drop_zero]
  match hl : s.data.toList with
  | [] => rfl
  | [x] => unfold base7; split
           · rename_i e; cases e
           · rfl
  | x :: y :: t =>
    have hlen : s.data.toList.length = s.size := by simp
    rcases h with h | ⟨h, h0⟩
    · rw [hl] at hlen; simp at hlen; omega
    · have : s.data.toList[0]? = some x := by rw [hl]; rfl
      have h2 : s.data.toList[0]? = some (s[0]'h) := by rw [Array.getElem?_toList]; exact Array.getElem?_eq_getElem _
      have e0 : s[0]'h = x := Option.some.inj (h2.symm.trans this)
      rw [e0] at h0
      unfold base7
      split
      · rename_i e
        cases e
        exact absurd rfl h0
      · rfl

end Go.Proofs.YtfodkkdggajjaaaDoor

/-
  Words for the errors of package fail: chains of wrapped errors in memory, and slices of strings.
-/
namespace Go.Proofs.YtfodkkdggajjaaaDoor
open Go.RowKit

/-- An error value that is 'cs' wrapped round an end (the outermost call first): a number, or nothing. -/
def Chain (w : World) : List ByteArray → Option Int → Value → Prop
  | [], some n, v => v = .iface 33 (.int .i64 n)
  | [], none, v => v = .nilIface
  | c :: cs, o, v => ∃ b v', v = .iface 89 (.pointer (some ⟨b, 0, none⟩)) ∧ b < w.heap.size ∧
      w.cell? ⟨b, 0, none⟩ = some (.string c) ∧ w.cell? ⟨b, 1, none⟩ = some v' ∧ Chain w cs o v'

theorem Chain.below {w w' : World} (hb : Below w.heap.size w w') : ∀ {cs : List ByteArray} {o : Option Int} {v : Value}, Chain w cs o v → Chain w' cs o v
  | [], some _, _, h => h
  | [], none, _, h => h
  | _ :: _, _, _, ⟨b, v', e, hl, h0, h1, h2⟩ =>
    ⟨b, v', e, Nat.lt_of_lt_of_le hl hb.size, (hb.cell (p := ⟨b, 0, none⟩) hl).trans h0, (hb.cell (p := ⟨b, 1, none⟩) hl).trans h1, Chain.below hb h2⟩

/-- A slice of strings that reads as a list; nil let in. -/
def Strs (w : World) (A : Option Addr) (ss : List ByteArray) : Prop :=
  ∀ i s, ss[i]? = some s → ∃ b off, A = some ⟨b, off, none⟩ ∧ b < w.heap.size ∧ w.cell? ⟨b, off + i, none⟩ = some (.string s)

theorem Strs.below {w w' : World} {A : Option Addr} {ss : List ByteArray} (h : Strs w A ss) (hb : Below w.heap.size w w') : Strs w' A ss := by
  intro i s hs
  obtain ⟨b, off, e, hl, hc⟩ := h i s hs
  exact ⟨b, off, e, Nat.lt_of_lt_of_le hl hb.size, (hb.cell (p := ⟨b, off + i, none⟩) hl).trans hc⟩

theorem bytes_same {a b : ByteArray} (h : a = b) : (a.toList == b.toList) = true := by rw [h]; simp
theorem bytes_other {a b : ByteArray} (h : a ≠ b) : (a.toList == b.toList) = false := by
  rw [beq_eq_false_iff_ne, ByteArray.toList_eq, ByteArray.toList_eq]
  exact fun e => h (WideShapes.bytes_inj e)

/-- 20 texts of 60 bytes at most. -/
def few (ss : List ByteArray) : Bool := decide (ss.length ≤ 20) && (ss.take 21).all fun s => decide (s.size ≤ 60)

theorem few_false_long {ss : List ByteArray} (h : ¬ ss.length ≤ 20) : few ss = false := by simp [few]; omega
theorem few_false_at {ss : List ByteArray} {k : Nat} (hk : k < ss.length) (h21 : k < 21) (h : 60 < ss[k].size) : few ss = false := by
  simp only [few, Bool.and_eq_false_iff]
  right
  rw [List.all_eq_false]
  refine ⟨ss[k], ?_, by simp; omega⟩
  rw [List.mem_iff_getElem]
  exact ⟨k, by simp; omega, by simp⟩
theorem few_true {ss : List ByteArray} (hl : ss.length ≤ 20) (h : ∀ j, (hj : j < ss.length) → ss[j].size ≤ 60) : few ss = true := by
  simp only [few, Bool.and_eq_true, decide_eq_true_eq, List.all_eq_true]
  refine ⟨hl, fun s hs => ?_⟩
  obtain ⟨j, hj, rfl⟩ := List.mem_iff_getElem.1 (List.mem_of_mem_take hs)
  exact h j hj
theorem few_len {ss : List ByteArray} (h : few ss = true) : ss.length ≤ 20 := by
  simp only [few, Bool.and_eq_true, decide_eq_true_eq] at h; exact h.1
theorem few_size {ss : List ByteArray} (h : few ss = true) : ∀ s ∈ ss, s.size ≤ 60 := by
  have hl := few_len h
  simp only [few, Bool.and_eq_true, decide_eq_true_eq, List.all_eq_true] at h
  intro s hs
  exact h.2 s (by rw [List.take_of_length_le (by omega)]; exact hs)

end Go.Proofs.YtfodkkdggajjaaaDoor

/-
  The document's Split and parts of layer 7, by their contracts.
-/
namespace Go.Proofs.YtfodkkdggajjaaaDoor
open Go.RowKit

/-- A text of bytes. -/
def btx (l : List UInt8) : ByteArray := ⟨l.toArray⟩
theorem btx_toList (l : List UInt8) : (btx l).data.toList = l := rfl
theorem btx_of (s : ByteArray) : btx s.data.toList = s := rfl
theorem btx_size (l : List UInt8) : (btx l).size = l.length := by show l.toArray.size = _; simp
/-- A slice of texts that the call made. -/
def MadeS (B : Nat) (w : World) (v : Value) (ps : List (List UInt8)) : Prop := w.ownsRow B 9 1 v ps.length (ps.map fun p => Value.string (btx p))
theorem Tryd.infoS : (Tryd.prog.info? 9).map (fun i => (i.zero, i.size, i.bytes)) = some (some (.string ⟨#[]⟩), 1, 16) := by kernel_rfl
theorem MadeS.strs {B : Nat} {w : World} {v : Value} {ps : List (List UInt8)} (h : MadeS B w v ps) : ∃ A c, v = .slice A ps.length c ∧ ps.length ≤ c ∧ Strs w A (ps.map btx) := by
  have h' : w.ownsRow B 9 1 v ps.length (ps.map fun p => Value.string (btx p)) := h
  rcases h.2 with ⟨rfl, h0⟩ | ⟨g, cap, cur, rfl, hh⟩
  · obtain rfl := List.eq_nil_of_length_eq_zero h0
    exact ⟨none, 0, rfl, Nat.le_refl _, fun i s hs => by simp at hs⟩
  · refine ⟨_, _, rfl, hh.2.2.1, fun i s hs => ?_⟩
    have hi : i < ps.length := by have := (List.getElem?_eq_some_iff.1 hs).1; simpa using this
    have hc := h'.cellAt (g := g) i (by simpa using hi)
    refine ⟨g, 0, rfl, (Array.getElem?_eq_some_iff.1 hh.2.1).1, ?_⟩
    rw [Nat.zero_add, hc, List.getElem?_map]
    rw [List.getElem?_map] at hs
    obtain ⟨p, hp, rfl⟩ := Option.map_eq_some_iff.1 hs
    rw [hp]; rfl
theorem MadeS.below {B : Nat} {w w' : World} {v : Value} {ps : List (List UInt8)} (h : MadeS B w v ps) (hb : Below w.heap.size w w') : MadeS B w' v ps := own_below h hb
theorem drop_seg {l : List UInt8} {f k : Nat} (hf : f ≤ k) : l.drop f = (l.drop f).take (k - f) ++ l.drop k := by
  conv => lhs; rw [← List.take_append_drop (k - f) (l.drop f)]
  rw [List.drop_drop]
  congr 2
  omega
theorem extract_btx (s : ByteArray) (f k : Nat) : s.extract f k = btx ((s.data.toList.drop f).take (k - f)) := by
  apply ByteArray.ext
  show (s.extract f k).data = _
  rw [ByteArray.data_extract]
  apply Array.toList_inj.1
  show _ = (s.data.toList.drop f).take (k - f)
  rw [Array.toList_extract]

theorem cut7_here {c : UInt8} {l : List UInt8} {f k : Nat} (hf : f ≤ k) (hk : k < l.length) (hc : l[k] = c) (hno : ∀ b ∈ (l.drop f).take (k - f), b ≠ c) : cut7 c (l.drop f) = (l.drop f).take (k - f) :: cut7 c (l.drop (k + 1)) := by
  have h := drop_seg (l := l) hf
  rw [List.drop_eq_getElem_cons hk, hc] at h
  conv => lhs; rw [h]
  rw [cut7_seg hno]
/-- 'append(v, t)' of one text, v a slice of texts of the call's own. -/
theorem append_text {ops : Array Oper} {rest : List Oper} {o : Oper} {a : Act} {Q : Exit → Act → World → Prop} {w0 : World} (hgd : o.guard = none) (s x : Operand)
    (ho : o.op = .call { callee := .builtin .append, args := #[s, x], argTypes := #[55, 55] })
    (B : Nat) (v : Value) (ps : List (List UInt8)) (p : List UInt8) (t : ByteArray) (ht : t = btx p) (hs : a.eval s = v) (hx : a.eval x = .slice (some ⟨w0.heap.size, 0, none⟩) 1 1) (h1 : MadeS B w0 v ps)
    (hl : ps.length ≤ 20000) (hB : B ≤ w0.heap.size)
    (h : ∀ v' w', MadeS B w' v' (ps ++ [p]) → Below B w0 w' → wpList Tryd.prog ops Q rest (a.put o.dst v') w') : wpList Tryd.prog ops Q (o :: rest) a (w0.alloc (.cells #[.string t] 9)) := by
  obtain ⟨i0, hi, hz0, hz1, hz2⟩ := info_parts Tryd.infoS
  refine wpList_append_own _ hgd s x _ ho B 9 i0 _ 1 16 Tryd.underlying55 hi hz0 hz1 hz2 rfl (by decide) v _ _ hs (h1.alloc _) ⟨w0.heap.size, 0, none⟩ 1 1 [.string t] hx rfl (cell_one_new _ _ _) (by simp [Value.oneCell']) (by simp only [maxLen]; omega) (by omega) (by simp; omega) (fun v' w' hown hg _ => h v' w' ?_ ?_)
  · show w'.ownsRow B 9 1 v' _ _
    subst ht
    rw [List.length_append, List.map_append]; exact hown
  · exact ((Below.refl B w0).alloc hB _).grown hg (by simp; omega) (own_ge (show w0.ownsRow B 9 1 v _ _ from h1))

def SplitPost7 (ps : List (List UInt8)) (w : World) (e : Ending) (w' : World) : Prop := ∃ v, e = .returned v ∧ MadeS w.heap.size w' v ps ∧ Below w.heap.size w w'

theorem btx_tl (x : List UInt8) : (btx x).toList = x := by rw [ByteArray.toList_eq]; rfl
theorem btx_empty : (btx []).toList.isEmpty = true := by rw [btx_tl]; rfl
theorem btx_full {x : List UInt8} (h : x ≠ []) : (btx x).toList.isEmpty = false := by
  rw [btx_tl]
  cases x with
  | nil => exact absurd rfl h
  | cons a l => rfl
theorem strs_at {w : World} {A : Option Addr} {ps : List (List UInt8)} (h : Strs w A (ps.map btx)) {i : Nat} {p : List UInt8} (hp : ps[i]? = some p) : ∃ b off, A = some ⟨b, off, none⟩ ∧ b < w.heap.size ∧ w.cell? ⟨b, off + i, none⟩ = some (.string (btx p)) :=
  h i (btx p) (by rw [List.getElem?_map, hp]; rfl)
def PartsPost (ps : List (List UInt8)) (w : World) (e : Ending) (w' : World) : Prop := ∃ A c, e = .returned (.slice A ps.length c) ∧ ps.length ≤ c ∧ Strs w' A (ps.map btx) ∧ Below w.heap.size w w'
theorem Strs.take7 {w : World} {A : Option Addr} {ss : List ByteArray} (h : Strs w A ss) (k : Nat) : Strs w A (ss.take k) := by
  intro i c hc
  refine h i c ?_
  rw [List.getElem?_take] at hc
  split at hc
  · exact hc
  · cases hc

end Go.Proofs.YtfodkkdggajjaaaDoor

/-
  strings.SplitN at a dot and five parts at most: by the shelf's contract, without what the longer signs ask for.
-/
namespace Go.Proofs.YtfodkkdggajjaaaDoor
open Go.RowKit

theorem ib_facts (l : List UInt8) (c : UInt8) : (Lib.indexByte l c = -1 ∧ ∀ b ∈ l, b ≠ c) ∨ ∃ i : Nat, Lib.indexByte l c = i ∧ i < l.length ∧ (∀ b ∈ l.take i, b ≠ c) ∧ l.drop i = c :: l.drop (i + 1) := by
  induction l with
  | nil => exact .inl ⟨rfl, by simp⟩
  | cons b l ih =>
    by_cases hb : b = c
    · subst hb
      refine .inr ⟨0, by simp [Lib.indexByte], by simp, by simp, by simp⟩
    · have e : Lib.indexByte (b :: l) c = if Lib.indexByte l c == -1 then -1 else Lib.indexByte l c + 1 := by
        rw [Lib.indexByte, if_neg (by simpa using hb)]
      rcases ih with ⟨h1, h2⟩ | ⟨i, h1, h2, h3, h4⟩
      · refine .inl ⟨by rw [e, h1]; rfl, fun x hx => ?_⟩
        rcases List.mem_cons.1 hx with rfl | hx
        · exact hb
        · exact h2 x hx
      · refine .inr ⟨i + 1, ?_, by simp; omega, fun x hx => ?_, by simpa using h4⟩
        · rw [e, h1, if_neg (by simp)]; rfl
        · rw [List.take_succ_cons] at hx
          rcases List.mem_cons.1 hx with rfl | hx
          · exact hb
          · exact h3 x hx
theorem spl_cut (k : Nat) (l : List UInt8) : (Lib.splitK [46] 0 k l).length = min (k + 1) (cut7 46 l).length ∧ ((cut7 46 l).length ≤ k + 1 → Lib.splitK [46] 0 k l = cut7 46 l) := by
  induction k generalizing l with
  | zero =>
    have hp : 1 ≤ (cut7 46 l).length := by
      have := cut7_ne 46 l
      cases h : cut7 46 l with
      | nil => exact absurd h this
      | cons _ _ => simp
    refine ⟨by simp [Lib.splitK]; omega, fun h => ?_⟩
    rcases ib_facts l 46 with ⟨_, h2⟩ | ⟨i, h1, h2, h3, h4⟩
    · rw [cut7_end h2]; rfl
    · have e : l = l.take i ++ 46 :: l.drop (i + 1) := by rw [← h4, List.take_append_drop]
      have e2 : cut7 46 l = l.take i :: cut7 46 (l.drop (i + 1)) := by
        have := cut7_seg h3 (l.drop (i + 1))
        rw [← e] at this
        exact this
      rw [e2] at h
      have := cut7_ne 46 (l.drop (i + 1))
      cases h5 : cut7 46 (l.drop (i + 1)) with
      | nil => exact absurd h5 this
      | cons _ _ => rw [h5] at h; simp at h
  | succ k ih =>
    rcases ib_facts l 46 with ⟨h1, h2⟩ | ⟨i, h1, h2, h3, h4⟩
    · have e : Lib.splitK [46] 0 (k + 1) l = [l] := by
        unfold Lib.splitK
        rw [Lib.index_one, h1]; rfl
      rw [e, cut7_end h2]
      exact ⟨by simp, fun _ => rfl⟩
    · have e : l = l.take i ++ 46 :: l.drop (i + 1) := by rw [← h4, List.take_append_drop]
      have e2 : cut7 46 l = l.take i :: cut7 46 (l.drop (i + 1)) := by
        have := cut7_seg h3 (l.drop (i + 1))
        rw [← e] at this
        exact this
      have e3 : Lib.splitK [46] 0 (k + 1) l = l.take i :: Lib.splitK [46] 0 k (l.drop (i + 1)) := by
        rw [Lib.splitK, Lib.index_one, h1, if_neg (by simp)]
        simp
      obtain ⟨a, b⟩ := ih (l.drop (i + 1))
      rw [e2, e3]
      refine ⟨by simp; omega, fun h => ?_⟩
      rw [b (by simpa using h)]
/-- What SplitN gives. -/
def spl5 (l : List UInt8) : List (List UInt8) := Lib.splitK [46] 0 (min 5 (l.length + 1) - 1) l
theorem spl5_few {l : List UInt8} (h : (cut7 46 l).length ≤ 4) : spl5 l = cut7 46 l := by
  have := cut7_length 46 l
  exact (spl_cut _ l).2 (by omega)
theorem spl5_many {l : List UInt8} (h : ¬ (cut7 46 l).length ≤ 4) : (spl5 l).length = 5 := by
  have h1 := cut7_length 46 l
  have h2 := (spl_cut (min 5 (l.length + 1) - 1) l).1
  show (Lib.splitK [46] 0 (min 5 (l.length + 1) - 1) l).length = 5
  omega
theorem btx_data (s : ByteArray) : btx s.data.toList = s := rfl
theorem spl5_bytes (s : ByteArray) : Lib.splitB ⟨#[46]⟩ 0 (min 5 (s.size + 1) - 1) s = (spl5 s.data.toList).map btx := by
  have h := Lib.splitB_data ⟨#[46]⟩ 0 (min 5 (s.size + 1) - 1) s
  have e : spl5 s.data.toList = (Lib.splitB ⟨#[46]⟩ 0 (min 5 (s.size + 1) - 1) s).map (·.data.toList) := by
    rw [h]
    show Lib.splitK [46] 0 _ _ = _
    have : s.data.toList.length = s.size := by simp
    rw [this]
  rw [e, List.map_map]
  conv => lhs; rw [← List.map_id (Lib.splitB ⟨#[46]⟩ 0 (min 5 (s.size + 1) - 1) s)]
  refine List.map_congr_left fun x _ => ?_
  exact (btx_data x).symm

set_option maxHeartbeats 1000000 in
theorem zsplit_any (s : ByteArray) (w : World) (hs : s.size ≤ 10000) :
    Calls Tryd.prog 36 #[.string s, .string ⟨#[46]⟩, .int .i64 5] w (PartsPost (spl5 s.data.toList) w) := by
  have HG : Hid (Calls Tryd.prog 49 #[.string s, .string ⟨#[46]⟩, .int .i64 0, .int .i64 5] w (PartsPost (spl5 s.data.toList) w)) := by
    show Calls _ _ _ _ _
    refine (Any.strings_genSplit_core (ρ := lays147_ren) { lays147 with } (by kernel_rfl) s ⟨#[46]⟩ 0 5 (min 5 (s.size + 1)) w (by omega) (by decide) (by omega)
      (fun x c hx => ?_) ?_ (by decide) (by decide) (by rw [if_neg (by decide)]; omega)).mono ?_
    · refine (Any.strings_Index_one (ρ := lays147_ren) { lays147 with } x 46 _).mono fun e w' ⟨he, hw⟩ => ⟨?_, hw⟩
      rw [he]
      show _ = Ending.returned (.int .i64 (Lib.index x.data.toList [46]))
      rw [Lib.index_one]
    · refine (Any.strings_Count_one (ρ := lays147_ren) { lays147 with } s 46 w).mono fun e w' ⟨he, hw⟩ => ⟨?_, hw⟩
      rw [he]
      show _ = Ending.returned (Value.int .i64 ((Lib.count s.data.toList [46] : Nat) : Int))
      rw [Lib.count_one]
      rfl
    · rintro e w' ⟨rfl, rfl⟩
      rw [spl5_bytes]
      refine ⟨some ⟨w.heap.size, 0, none⟩, min 5 (s.size + 1), by rw [List.length_map], ?_, ?_, (Below.refl _ _).alloc (Nat.le_refl _) _⟩
      · have h1 := (spl_cut (min 5 (s.data.toList.length + 1) - 1) s.data.toList).1
        have : s.data.toList.length = s.size := by simp
        show (Lib.splitK [46] 0 (min 5 (s.data.toList.length + 1) - 1) s.data.toList).length ≤ _
        omega
      · intro i c hc
        refine ⟨w.heap.size, 0, rfl, by simp, ?_⟩
        have := heap_alloc_new w (.cells (Lib.cellsOf ((spl5 s.data.toList).map btx) (min 5 (s.size + 1))) 9)
        obtain ⟨h1, h2⟩ := List.getElem?_eq_some_iff.1 hc
        have hx : (Lib.cellsOf ((spl5 s.data.toList).map btx) (min 5 (s.size + 1)))[i]? = some (.string c) := by
          unfold Lib.cellsOf
          rw [List.getElem?_toArray, List.getElem?_append_left (by rw [List.length_map]; exact h1), List.getElem?_map, hc]
          rfl
        rw [Nat.zero_add]
        have e31 : lays147_ren.t 9 = 9 := rfl
        rw [e31]
        simp only [World.cell?, this]
        exact hx
  have HG := HG.out
  go_enter Tryd.func36, Tryd.ntmps36
  go_wp2_with (go_at_call 49; refine HG.mono ?_; rintro e w1 ⟨A, c, rfl, hcap, hstr, hb⟩; have HH := Lib.hid (And.intro hcap (And.intro hstr hb)); clear hcap hstr hb)
  go_ret
  exact ⟨A, c, rfl, HH.out⟩
end Go.Proofs.YtfodkkdggajjaaaDoor

/-
  The document's value, small and colons of layer 8, by their contracts.
-/
namespace Go.Proofs.YtfodkkdggajjaaaDoor
open Go.RowKit

def optI (o : Option Nat) : Int := match o with
  | none => -1
  | some n => n
theorem get_at8 {s : ByteArray} {k : Nat} (h : k < s.size) : s.data.toList[k]? = some (s[k]'h) := by rw [Array.getElem?_toList]; exact Array.getElem?_eq_getElem _
theorem take_at {s : ByteArray} {k : Nat} (h : k < s.size) : s.data.toList.take (k + 1) = s.data.toList.take k ++ [s[k]'h] := by
  have hl : k < s.data.toList.length := by simpa using h
  rw [List.take_succ_eq_append_getElem hl]
  congr 2
theorem value8_of {s : ByteArray} (h1 : 1 ≤ s.size) (h4 : s.size ≤ 4) : value8 s.data.toList = digs 16 0 s.data.toList := by
  have hl : s.data.toList.length = s.size := by simp
  unfold value8
  rw [if_neg]
  intro e
  rcases e with e | e
  · rw [e] at hl; simp at hl; omega
  · omega

/-- The place of the first pair, from a place on. -/
theorem colons8_drop {l : List UInt8} {k : Nat} (h : ∀ j, j < k → ¬ (l[j]? = some 58 ∧ l[j + 1]? = some 58)) : colons8 l = (colons8 (l.drop k)).map (· + k) := by
  induction k generalizing l with
  | zero => cases h2 : colons8 l <;> simp [h2]
  | succ k ih =>
    cases l with
    | nil => rfl
    | cons a t =>
      have h0 := h 0 (by omega)
      have hc : colons8 (a :: t) = (colons8 t).map (· + 1) := by
        apply colons8_cons
        by_cases ha : a = 58
        · right
          intro e
          apply h0
          subst ha
          refine ⟨rfl, ?_⟩
          cases t with
          | nil => cases e
          | cons b t => simpa using e
        · exact .inl ha
      rw [hc, ih (l := t) (fun j hj e => h (j + 1) (by omega) (by simpa using e)), List.drop_succ_cons]
      cases colons8 (t.drop k) with
      | none => rfl
      | some x => simp; omega
theorem colons8_here {l : List UInt8} {k : Nat} (h : ∀ j, j < k → ¬ (l[j]? = some 58 ∧ l[j + 1]? = some 58)) (h1 : l[k]? = some 58) (h2 : l[k + 1]? = some 58) : colons8 l = some k := by
  rw [colons8_drop h]
  have e : l.drop k = 58 :: 58 :: l.drop (k + 2) := by
    obtain ⟨a1, b1⟩ := List.getElem?_eq_some_iff.1 h1
    obtain ⟨a2, b2⟩ := List.getElem?_eq_some_iff.1 h2
    rw [List.drop_eq_getElem_cons a1, b1, List.drop_eq_getElem_cons a2, b2]
  rw [e, colons8, if_pos ⟨rfl, rfl⟩]
  simp
theorem colons8_end {l : List UInt8} {k : Nat} (h : ∀ j, j < k → ¬ (l[j]? = some 58 ∧ l[j + 1]? = some 58)) (hk : l.length ≤ k + 1) : colons8 l = none := by
  rw [colons8_drop h]
  have : (l.drop k).length ≤ 1 := by rw [List.length_drop]; omega
  match hd : l.drop k, this with
  | [], _ => rfl
  | [_], _ => rfl
  | _ :: _ :: _, h => rw [hd] at this; simp at this

end Go.Proofs.YtfodkkdggajjaaaDoor

/-
  The document's small of layer 8, by its contract.
-/
namespace Go.Proofs.YtfodkkdggajjaaaDoor
open Go.RowKit

theorem val_fig {b : UInt8} (h0 : 48 ≤ b.toNat) (h1 : b.toNat ≤ 57) : val b.toNat = (b.toNat : Int) - 48 := by unfold val; rw [if_pos (by omega)]
theorem val_nofig {b : UInt8} (h : ¬ (48 ≤ b.toNat ∧ b.toNat ≤ 57)) : ¬ (0 ≤ val b.toNat ∧ val b.toNat < (10 : Nat)) := by
  unfold val
  rw [if_neg (by omega)]
  split
  · omega
  · split <;> omega
theorem head_zero {s : ByteArray} (h : 0 < s.size) : s.data.toList.head? = some (s[0]'h) := by
  rw [List.head?_eq_getElem?, get_at8 h]
theorem small8_long {s : ByteArray} (h : 3 < s.size) : small8 s.data.toList = none := by
  have hl : s.data.toList.length = s.size := by simp
  unfold small8
  rw [if_pos (.inr (.inl (by omega)))]
theorem small8_zero {s : ByteArray} (h : 1 < s.size) (h0 : (s[0]'(by omega)).toNat = 48) : small8 s.data.toList = none := by
  have hl : s.data.toList.length = s.size := by simp
  unfold small8
  rw [if_pos (.inr (.inr ⟨by omega, by rw [head_zero (by omega)]; congr 1; exact UInt8.toNat_inj.1 h0⟩))]
def cap255 (o : Option Nat) : Option Nat := match o with
  | none => none
  | some n => if n ≤ 255 then some n else none
theorem small8_of {s : ByteArray} (h1 : 0 < s.size) (h3 : s.size ≤ 3) (hz : s.size = 1 ∨ ¬ (s[0]'h1).toNat = 48) : small8 s.data.toList = cap255 (digs 10 0 s.data.toList) := by
  have hl : s.data.toList.length = s.size := by simp
  have hne : ¬ (s.data.toList = [] ∨ 3 < s.data.toList.length ∨ (1 < s.data.toList.length ∧ s.data.toList.head? = some 48)) := by
    rintro (e | e | ⟨e1, e2⟩)
    · rw [e] at hl; simp at hl; omega
    · omega
    · rw [head_zero h1] at e2
      rcases hz with hz | hz
      · omega
      · exact hz (by have := Option.some.inj e2; rw [this]; rfl)
  unfold small8
  rw [if_neg hne]
  rfl

end Go.Proofs.YtfodkkdggajjaaaDoor

/-
  The document's quad of layer 8, by its contract.
-/
namespace Go.Proofs.YtfodkkdggajjaaaDoor
open Go.RowKit

/-- A slice of pieces of the call's own. -/
def MadeH (B : Nat) (w : World) (v : Value) (l : List Nat) : Prop := w.ownsRow B 22 1 v l.length (l.map fun n : Nat => Value.int .u16 (n : Int))
theorem Tryd.infoH : (Tryd.prog.info? 22).map (fun i => (i.zero, i.size, i.bytes)) = some (some (.int .u16 0), 1, 2) := by kernel_rfl
theorem MadeH.below {B : Nat} {w w' : World} {v : Value} {l : List Nat} (h : MadeH B w v l) (hb : Below w.heap.size w w') : MadeH B w' v l := own_below h hb
theorem MadeH.lower {B B' : Nat} {w : World} {v : Value} {l : List Nat} (h : MadeH B w v l) (hb : B' ≤ B) : MadeH B' w v l := by
  refine ⟨h.1, ?_⟩
  rcases h.2 with h2 | ⟨g, cap, cur, h3, h4, r⟩
  · exact .inl h2
  · exact .inr ⟨g, cap, cur, h3, by omega, r⟩
def QPost (o : Option (Nat × Nat)) (w : World) (e : Ending) (w' : World) : Prop := match o with
  | none => e = .returned (.slice none 0 0) ∧ Below w.heap.size w w'
  | some q => ∃ v, e = .returned v ∧ MadeH w.heap.size w' v [q.1, q.2] ∧ Below w.heap.size w w'
theorem quad8_some {s a b c d : List UInt8} {x y z t : Nat} (h : cut7 46 s = [a, b, c, d]) (h0 : small8 a = some x) (h1 : small8 b = some y) (h2 : small8 c = some z) (h3 : small8 d = some t) : quad8 s = some (256 * x + y, 256 * z + t) := by
  unfold quad8; rw [h]; simp [h0, h1, h2, h3]
theorem quad8_no0 {s a b c d : List UInt8} (h : cut7 46 s = [a, b, c, d]) (h0 : small8 a = none) : quad8 s = none := by
  unfold quad8; rw [h]; simp [h0]
theorem quad8_no1 {s a b c d : List UInt8} (h : cut7 46 s = [a, b, c, d]) (h0 : small8 b = none) : quad8 s = none := by
  unfold quad8; rw [h]; simp [h0]
theorem quad8_no2 {s a b c d : List UInt8} (h : cut7 46 s = [a, b, c, d]) (h0 : small8 c = none) : quad8 s = none := by
  unfold quad8; rw [h]; simp [h0]
theorem quad8_no3 {s a b c d : List UInt8} (h : cut7 46 s = [a, b, c, d]) (h0 : small8 d = none) : quad8 s = none := by
  unfold quad8; rw [h]; simp [h0]
theorem quad8_other {s : List UInt8} (h : (cut7 46 s).length ≠ 4) : quad8 s = none := by
  unfold quad8
  split
  · rename_i e; rw [e] at h; exact absurd rfl h
  · rfl
theorem cast_own8 {w : World} {B : Nat} {v : Value} {k x0 y0 : Nat} {l : List Value} (h : w.ownsRow B 22 1 v k (l ++ [.int .u16 (256 * (x0 : Int) + (y0 : Int))])) : w.ownsRow B 22 1 v k (l ++ [.int .u16 ((256 * x0 + y0 : Nat) : Int)]) := by
  rw [show ((256 * x0 + y0 : Nat) : Int) = 256 * (x0 : Int) + (y0 : Int) by omega]; exact h
theorem grown_undrew8 {w w1 : World} {o : Option Nat} (h : w.drew.grownBy w1 o) : w.grownBy w1 o := ⟨h.os, h.tape, h.output, h.size, h.block⟩
theorem MadeH.push {B : Nat} {wr w1 : World} {v v' : Value} {n : Nat} {l : List Nat} {tmp : Obj} (h : MadeH B wr v l) (hB : B ≤ wr.heap.size)
    (hown : w1.ownsRow B 22 1 v' (l.length + 1) ((l.map fun n : Nat => Value.int .u16 (n : Int)) ++ [.int .u16 (n : Int)])) (hg : (wr.alloc tmp).grownBy w1 v.ownBlock) : MadeH B w1 v' (l ++ [n]) ∧ Below B wr w1 := by
  refine ⟨?_, ((Below.refl B wr).alloc hB _).grown hg (by simp; omega) (own_ge (show wr.ownsRow B 22 1 v _ _ from h))⟩
  show w1.ownsRow B 22 1 v' _ _
  rw [List.length_append, List.map_append]
  exact hown

end Go.Proofs.YtfodkkdggajjaaaDoor

/-
  The document's list of layer 8, by its contract.
-/
namespace Go.Proofs.YtfodkkdggajjaaaDoor
open Go.RowKit

/-- 'append(v, x...)', both slices of pieces of the call's own. -/
theorem append_h {ops : Array Oper} {rest : List Oper} {o : Oper} {a : Act} {Q : Exit → Act → World → Prop} {w : World} (hgd : o.guard = none) (s x : Operand)
    (ho : o.op = .call { callee := .builtin .append, args := #[s, x], argTypes := #[42, 42] })
    (B B' : Nat) (v vx : Value) (l lx : List Nat) (hs : a.eval s = v) (hx : a.eval x = vx) (h1 : MadeH B w v l) (h2 : MadeH B' w vx lx) (hl : l.length + lx.length ≤ 20000) (hB : B ≤ w.heap.size)
    (hne : 0 < lx.length)
    (h : ∀ v' w', MadeH B w' v' (l ++ lx) → Below B w w' → wpList Tryd.prog ops Q rest (a.put o.dst v') w') : wpList Tryd.prog ops Q (o :: rest) a w := by
  obtain ⟨i0, hi, hz0, hz1, hz2⟩ := info_parts Tryd.infoH
  have h2' : w.ownsRow B' 22 1 vx lx.length (lx.map fun n : Nat => Value.int .u16 (n : Int)) := h2
  rcases h2.2 with ⟨rfl, h0⟩ | ⟨g, cap, cur, rfl, _⟩
  · omega
  · refine wpList_append_own w hgd s x _ ho B 22 i0 _ 1 2 Tryd.underlying42 hi hz0 hz1 hz2 rfl (by decide) v _ _ hs h1 ⟨g, 0, none⟩ lx.length cap (lx.map fun n : Nat => Value.int .u16 (n : Int)) hx (by simp) (fun j u hu => ?_) (fun u hu => ?_) (by simp only [maxLen]; omega) (by omega) hB (fun v' w' hown hg _ => h v' w' ?_ ?_)
    · rw [add_at, Nat.zero_add, h2'.cellAt (g := g) j (by have := (List.getElem?_eq_some_iff.1 hu).1; simpa using this)]
      exact hu
    · obtain ⟨n, _, rfl⟩ := List.mem_map.1 hu
      rfl
    · show w'.ownsRow B 22 1 v' _ _
      rw [List.length_append, List.map_append]; exact hown
    · exact (Below.refl B w).grown hg hB (own_ge (show w.ownsRow B 22 1 v _ _ from h1))
theorem madeH_one (w : World) (n : Nat) : MadeH w.heap.size (w.alloc (.cells #[.int .u16 (n : Int)] 22)) (.slice (some ⟨w.heap.size, 0, none⟩) 1 1) [n] :=
  ⟨by simp, .inr ⟨w.heap.size, 1, #[.int .u16 (n : Int)], rfl, Nat.le_refl _, heap_alloc_new w _, Nat.le_refl _, by simp [maxLen], by simp, by simp⟩⟩
theorem MadeH.shape {B : Nat} {w : World} {v : Value} {l : List Nat} (h : MadeH B w v l) : ∃ A c, v = .slice A l.length c := by
  rcases h.2 with ⟨rfl, h0⟩ | ⟨g, cap, cur, h, _⟩
  · exact ⟨none, 0, by rw [h0]⟩
  · exact ⟨_, _, h⟩
/-- What the last part is. -/
def one8 (last : Bool) (p : List UInt8) : Option (List Nat) := match (if last then quad8 p else none) with
  | some (x, y) => some [x, y]
  | none => (value8 p).map fun n => [n]
theorem pieces8_one (last : Bool) (p : List UInt8) : pieces8 last [p] = one8 last p := rfl
theorem pieces8_more {last : Bool} {p : List UInt8} {ps : List (List UInt8)} (h : ps ≠ []) : pieces8 last (p :: ps) = match value8 p, pieces8 last ps with
    | some n, some ns => some (n :: ns)
    | _, _ => none := by
  cases ps with
  | nil => exact absurd rfl h
  | cons q ps => rfl
theorem pieces8_step {last : Bool} {p : List UInt8} {ps : List (List UInt8)} {out : List Nat} {R : Option (List Nat)} {n : Nat} (h : ps ≠ []) (hR : R = (pieces8 last (p :: ps)).map (out ++ ·)) (hp : value8 p = some n) : R = (pieces8 last ps).map ((out ++ [n]) ++ ·) := by
  rw [hR, pieces8_more h, hp]
  cases pieces8 last ps with
  | none => rfl
  | some ns => simp
theorem pieces8_bad {last : Bool} {p : List UInt8} {ps : List (List UInt8)} {out : List Nat} {R : Option (List Nat)} (h : ps ≠ []) (hR : R = (pieces8 last (p :: ps)).map (out ++ ·)) (hp : value8 p = none) : R = none := by
  rw [hR, pieces8_more h, hp]; rfl
def LPost (o : Option (List Nat)) (w : World) (e : Ending) (w' : World) : Prop := match o with
  | none => e = .returned (.tuple #[.slice none 0 0, .bool false]) ∧ Below w.heap.size w w'
  | some l => ∃ v, e = .returned (.tuple #[v, .bool true]) ∧ MadeH w.heap.size w' v l ∧ Below w.heap.size w w'
end Go.Proofs.YtfodkkdggajjaaaDoor

/-
  The document's list of layer 8, by its contract: the walk.
-/
namespace Go.Proofs.YtfodkkdggajjaaaDoor
open Go.RowKit

end Go.Proofs.YtfodkkdggajjaaaDoor

/-
  The document's Hex and run of layer 8, by their contracts.
-/
namespace Go.Proofs.YtfodkkdggajjaaaDoor
open Go.RowKit

theorem fig16 : ∀ n : Fin 16, (⟨#[48, 49, 50, 51, 52, 53, 54, 55, 56, 57, 97, 98, 99, 100, 101, 102]⟩ : ByteArray).extract n.val (n.val + 1) = btx [hexd n.val] := by decide +kernel
theorem hex8_small {n : Nat} (h : n < 16) : hex8 n = [hexd n] := by unfold hex8; rw [if_pos h]
theorem hex8_more {n : Nat} (h : ¬ n < 16) : hex8 n = hex8 (n / 16) ++ [hexd (n % 16)] := by
  conv => lhs; unfold hex8
  rw [if_neg h]
theorem btx_app8 (a b : List UInt8) : btx (a ++ b) = btx a ++ btx b := by
  apply ByteArray.ext
  rw [ByteArray.data_append]
  apply Array.toList_inj.1
  simp [btx]
def Quiet8 (s : ByteArray) (w : World) (e : Ending) (w' : World) : Prop := e = .returned (.string s) ∧ Below w.heap.size w w'
theorem below_drew8 {w w1 : World} (h : Below w.drew.heap.size w.drew w1) : Below w.heap.size w w1 := (below_drewN (Below.refl _ w) 1).trans h

set_option maxHeartbeats 1000000 in
set_option maxRecDepth 100000 in
theorem hex_small (n : Nat) (w : World) (hn : n < 16) : Calls Tryd.prog 13 #[.int .u16 (n : Int)] w (Quiet8 (btx (hex8 n)) w) := by
  have HF := Lib.hid (fig16 ⟨n, hn⟩)
  have HR : Hid (btx (hex8 n) = btx [hexd n]) := by show btx (hex8 n) = btx [hexd n]; rw [hex8_small hn]
  go_enter Tryd.func13, Tryd.ntmps13
  go_wp2
  go_ret
  refine ⟨?_, Below.refl _ _⟩
  rw [HR.out, ← HF.out]; rfl

set_option maxHeartbeats 1000000 in
set_option maxRecDepth 100000 in
theorem hex_more (n : Nat) (w : World) (hn : ¬ n < 16) (h6 : n < 65536) (ih : ∀ w, Calls Tryd.prog 13 #[.int .u16 ((n / 16 : Nat) : Int)] w (Quiet8 (btx (hex8 (n / 16))) w)) :
    Calls Tryd.prog 13 #[.int .u16 (n : Int)] w (Quiet8 (btx (hex8 n)) w) := by
  obtain ⟨q, hq⟩ : ∃ q, n / 16 = q := ⟨_, rfl⟩
  obtain ⟨r, hr⟩ : ∃ r, n % 16 = r := ⟨_, rfl⟩
  have hr1 : r < 16 := by omega
  have hq1 : q < 65536 := by omega
  have HF := Lib.hid (fig16 ⟨r, hr1⟩)
  have hl : (btx (hex8 q)).size ≤ 4 := by rw [btx_size]; exact (hex8_four (by omega)).2
  obtain ⟨t, ht⟩ : ∃ t, btx (hex8 q) = t := ⟨_, rfl⟩
  have HR : Hid (btx (hex8 n) = t ++ btx [hexd r]) := by show btx (hex8 n) = t ++ btx [hexd r]; rw [hex8_more hn, btx_app8, hq, hr, ht]
  rw [hq, ht] at ih
  rw [ht] at hl
  have hd1 : (n : Int).tdiv 16 = (q : Int) := by rw [Int.tdiv_eq_ediv_of_nonneg (by omega)]; omega
  have hd2 : (n : Int).tmod 16 = (r : Int) := by rw [Int.tmod_eq_emod_of_nonneg (by omega)]; omega
  have hd3 : (n : Int) / 16 = (q : Int) := by omega
  have hd4 : (n : Int) % 16 = (r : Int) := by omega
  have hw1 : IntKind.u16.wrap (q : Int) = (q : Int) := by simp [IntKind.wrap, IntKind.bits, IntKind.signed]; omega
  have hw2 : IntKind.u16.wrap (r : Int) = (r : Int) := by simp [IntKind.wrap, IntKind.bits, IntKind.signed]; omega
  have hw3 : IntKind.u16.wrap ((r : Int) + 1) = (r : Int) + 1 := by simp [IntKind.wrap, IntKind.bits, IntKind.signed]; omega
  have ht1 : ((r : Int) + 1).toNat = r + 1 := by omega
  have hb0 : (0 : Int) ≤ (r : Int) := by omega
  have hb1 : (r : Int) ≤ (r : Int) + 1 := by omega
  have hb2 : (r : Int) + 1 ≤ 16 := by omega
  have HIh := Lib.hid ih
  clear ih ht hq hr
  go_enter Tryd.func13, Tryd.ntmps13
  go_wp2_with fail
  go_region_with (first
    | (go_at_call 13; (with_reducible refine (HIh.out _).mono ?_); rintro e w1 ⟨rfl, hb1⟩; have HB1 := Lib.hid (below_drew8 hb1); clear hb1))
  all_goals
    go_wp2
    go_ret
    refine ⟨?_, HB1.out⟩
    rw [HR.out, ← HF.out]; rfl
theorem hex_any : ∀ (n : Nat) (w : World), n < 65536 → Calls Tryd.prog 13 #[.int .u16 (n : Int)] w (Quiet8 (btx (hex8 n)) w) := by
  intro n
  induction n using Nat.strongRecOn with
  | ind n ih =>
    intro w hn
    by_cases h : n < 16
    · exact hex_small n w h
    · exact hex_more n w h hn (fun w => ih (n / 16) (by omega) w (by omega))
end Go.Proofs.YtfodkkdggajjaaaDoor

/-
  The document's run of layer 8, by its contract.
-/
namespace Go.Proofs.YtfodkkdggajjaaaDoor
open Go.RowKit

/-- An address as a value. -/
def addr8 (a0 a1 a2 a3 a4 a5 a6 a7 : Nat) : Value := .agg #[.int .u16 (a0 : Int), .int .u16 (a1 : Int), .int .u16 (a2 : Int), .int .u16 (a3 : Int), .int .u16 (a4 : Int), .int .u16 (a5 : Int), .int .u16 (a6 : Int), .int .u16 (a7 : Int)]
theorem run8_is {l : List Nat} {k : Nat} (h : ∀ j, j < k → l[j]? = some 0) (he : k = l.length ∨ ∃ x, l[k]? = some x ∧ x ≠ 0) : run8 l = k := by
  induction l generalizing k with
  | nil =>
    rcases he with he | ⟨x, hx, _⟩
    · exact he.symm
    · simp at hx
  | cons a l ih =>
    unfold run8
    cases k with
    | zero =>
      rcases he with he | ⟨x, hx, hne⟩
      · simp at he
      · simp at hx; subst hx; rw [if_neg hne]
    | succ k =>
      have h0 := h 0 (by omega)
      simp at h0
      rw [if_pos h0, ih (k := k) (fun j hj => by have := h (j + 1) (by omega); simpa using this)]
      rcases he with he | ⟨x, hx, hne⟩
      · exact .inl (by simpa using he)
      · exact .inr ⟨x, by simpa using hx, hne⟩
theorem eight_at {a0 a1 a2 a3 a4 a5 a6 a7 : Nat} (w : World) (t : TypeId) : ∀ k, k < 8 → (w.alloc (.cells #[.int .u16 (a0 : Int), .int .u16 (a1 : Int), .int .u16 (a2 : Int), .int .u16 (a3 : Int), .int .u16 (a4 : Int), .int .u16 (a5 : Int), .int .u16 (a6 : Int), .int .u16 (a7 : Int)] t)).cell? ⟨w.heap.size, k, none⟩ = some (.int .u16 (([a0, a1, a2, a3, a4, a5, a6, a7].getD k 0 : Nat) : Int)) := by
  intro k hk
  rw [World.cell?_alloc_at _ _ _ _ rfl]
  match k, hk with
  | 0, _ => rfl
  | 1, _ => rfl
  | 2, _ => rfl
  | 3, _ => rfl
  | 4, _ => rfl
  | 5, _ => rfl
  | 6, _ => rfl
  | 7, _ => rfl
theorem getD_at8 {l : List Nat} {k : Nat} (h : k < l.length) : l[k]? = some (l.getD k 0) := by
  rw [List.getD_eq_getElem?_getD, List.getElem?_eq_getElem h]; rfl

set_option maxHeartbeats 2000000 in
set_option maxRecDepth 100000 in
theorem run_any (a0 a1 a2 a3 a4 a5 a6 a7 i : Nat) (w : World) (hi : i ≤ 8) (hl : ∀ n ∈ [a0, a1, a2, a3, a4, a5, a6, a7], n < 65536) :
    Calls Tryd.prog 16 #[addr8 a0 a1 a2 a3 a4 a5 a6 a7, .int .i64 (i : Int)] w fun e w' => e = .returned (.int .i64 (run8 ([a0, a1, a2, a3, a4, a5, a6, a7].drop i) : Nat)) ∧ Below w.heap.size w w' := by
  have HC := Lib.hid (eight_at (a0 := a0) (a1 := a1) (a2 := a2) (a3 := a3) (a4 := a4) (a5 := a5) (a6 := a6) (a7 := a7) w 23)
  obtain ⟨l, hll⟩ : ∃ l, [a0, a1, a2, a3, a4, a5, a6, a7] = l := ⟨_, rfl⟩
  have hlen : l.length = 8 := by rw [← hll]; rfl
  have HLen := Lib.hid hlen
  rw [hll] at HC hl ⊢
  have HL := Lib.hid hl
  clear hll hlen hl
  unfold addr8
  go_enter Tryd.func16, Tryd.ntmps16
  go_wp2
  obtain ⟨W, hW⟩ : ∃ W, w.alloc (.cells #[.int .u16 (a0 : Int), .int .u16 (a1 : Int), .int .u16 (a2 : Int), .int .u16 (a3 : Int), .int .u16 (a4 : Int), .int .u16 (a5 : Int), .int .u16 (a6 : Int), .int .u16 (a7 : Int)] 23) = W := ⟨_, rfl⟩
  have HB : Hid (Below w.heap.size w W) := by show Below w.heap.size w W; rw [← hW]; exact (Below.refl _ _).alloc (Nat.le_refl _) _
  rw [hW] at HC ⊢
  clear hW
  go_loopw [5] (fun v5 wr => ∃ k : Nat, i + k ≤ 8 ∧ v5 = .int .i64 k ∧ wr = W ∧ ∀ j, j < k → (l.drop i)[j]? = some 0) (fun v5 _ => 8 - (intOf v5).toNat)
  case atStart => exact ⟨0, by omega, rfl, rfl, fun j hj => by omega⟩
  case round =>
    obtain ⟨k, hk, rfl, hw, hno⟩ := hrel
    have hw' := hw.symm
    subst hw'
    have HN := Lib.hid hno
    clear hw hno
    by_cases hlt : i + k < 8
    · have hc := HC.out (i + k) hlt
      have HG := Lib.hid (getD_at8 (l := l) (k := i + k) (by rw [HLen.out]; exact hlt))
      have hx6 := HL.out (l.getD (i + k) 0) (by rw [List.getD_eq_getElem?_getD, List.getElem?_eq_getElem (by rw [HLen.out]; exact hlt)]; exact List.getElem_mem _)
      obtain ⟨x, hx⟩ : ∃ x, l.getD (i + k) 0 = x := ⟨_, rfl⟩
      rw [hx] at hc HG hx6
      clear hx
      by_cases hx0 : x = 0
      · subst hx0
        go_wp2
        go_roundw
        case rel =>
          refine ⟨k + 1, by omega, by go_num, by first | rfl | trivial, fun j hj => ?_⟩
          rcases Nat.lt_or_ge j k with h | h
          · exact HN.out j h
          · obtain rfl : j = k := by omega
            rw [List.getElem?_drop]; exact HG.out
        case measure => simp [intOf]; omega
      · have HE := Lib.hid (run8_is HN.out (.inr ⟨x, by rw [List.getElem?_drop]; exact HG.out, hx0⟩))
        have hx1 : ((x : Int) == 0) = false := beq_eq_false_iff_ne.2 (by omega)
        go_wp2
        go_ret
        exact ⟨by rw [HE.out]; rfl, HB.out⟩
    · have HE := Lib.hid (run8_is HN.out (.inl (by rw [List.length_drop, HLen.out]; omega)))
      have hki : ¬ (i : Int) + (k : Int) < 8 := by omega
      go_wp2
      go_ret
      exact ⟨by rw [HE.out]; rfl, HB.out⟩
end Go.Proofs.YtfodkkdggajjaaaDoor

/-
  The document's Text of layer 8, by its contract.
-/
namespace Go.Proofs.YtfodkkdggajjaaaDoor
open Go.RowKit

/-- What is left of a text from a piece on, without a pair of colons. -/
def restA (l : List Nat) (i : Nat) : List UInt8 := (if 0 < i ∧ i < l.length then [58] else []) ++ join8 (l.drop i)
theorem restA_step {l : List Nat} {i : Nat} (h : i < l.length) : restA l i = (if 0 < i then [58] else []) ++ hex8 (l.getD i 0) ++ restA l (i + 1) := by
  have hg : l.getD i 0 = l[i] := by rw [List.getD_eq_getElem?_getD, List.getElem?_eq_getElem h]; rfl
  unfold restA
  rw [List.drop_eq_getElem_cons h, hg]
  by_cases h1 : i + 1 < l.length
  · rw [List.drop_eq_getElem_cons h1, join8]
    by_cases h0 : 0 < i
    · rw [if_pos ⟨h0, h⟩, if_pos h0, if_pos ⟨by omega, h1⟩]; simp
    · rw [if_neg (by omega), if_neg h0, if_pos ⟨by omega, h1⟩]; simp
  · have hd : l.drop (i + 1) = [] := List.drop_eq_nil_of_le (by omega)
    rw [hd, join8]
    by_cases h0 : 0 < i
    · rw [if_pos ⟨h0, h⟩, if_pos h0, if_neg (by omega)]; simp [join8]
    · rw [if_neg (by omega), if_neg h0, if_neg (by omega)]; simp [join8]
theorem restA_zero (l : List Nat) : restA l 0 = join8 l := by unfold restA; simp
theorem restA_end {l : List Nat} {i : Nat} (h : l.length ≤ i) : restA l i = [] := by
  unfold restA
  rw [if_neg (by omega), List.drop_eq_nil_of_le h]; rfl
/-- With a pair of colons for n noughts at b. -/
def restB (l : List Nat) (b n i : Nat) : List UInt8 :=
  if i ≤ b then restA (l.take b) i ++ 58 :: 58 :: join8 (l.drop (b + n)) else restA (l.drop (b + n)) (i - (b + n))
theorem restB_le {l : List Nat} {b n i : Nat} (h : i ≤ b) : restB l b n i = restA (l.take b) i ++ 58 :: 58 :: join8 (l.drop (b + n)) := by unfold restB; rw [if_pos h]
theorem restB_gt {l : List Nat} {b n i : Nat} (h : ¬ i ≤ b) : restB l b n i = restA (l.drop (b + n)) (i - (b + n)) := by unfold restB; rw [if_neg h]
theorem text8_A {l : List Nat} {b n : Nat} (hb : cutAt l = b) (hn : run8 (l.drop b) = n) (h : n < 2) : text8 l = restA l 0 := by
  unfold text8
  rw [hb, hn, if_pos h, restA_zero]
theorem text8_B {l : List Nat} {b n : Nat} (hb : cutAt l = b) (hn : run8 (l.drop b) = n) (h : ¬ n < 2) : text8 l = restB l b n 0 := by
  unfold text8 restB
  rw [hb, hn, if_neg h, if_pos (by omega), restA_zero]
theorem restB_ahead {l : List Nat} {b n i : Nat} (hb : b ≤ l.length) (h : i < b) : restB l b n i = (if 0 < i then [58] else []) ++ hex8 (l.getD i 0) ++ restB l b n (i + 1) := by
  have hl : (l.take b).length = b := by rw [List.length_take]; omega
  have hg : (l.take b).getD i 0 = l.getD i 0 := by
    rw [List.getD_eq_getElem?_getD, List.getD_eq_getElem?_getD, List.getElem?_take, if_pos h]
  rw [restB_le (i := i) (by omega), restB_le (i := i + 1) (by omega), restA_step (by omega), hg]
  simp
theorem restB_here {l : List Nat} {b n : Nat} (hb : b ≤ l.length) (hn : 2 ≤ n) : restB l b n b = [58, 58] ++ restB l b n (b + n) := by
  have hl : (l.take b).length = b := by rw [List.length_take]; omega
  unfold restB
  rw [if_pos (Nat.le_refl _), if_neg (by omega), restA_end (by omega), Nat.sub_self, restA_zero]
  rfl
theorem restB_behind {l : List Nat} {b n i : Nat} (hn : 2 ≤ n) (h : b + n ≤ i) (hi : i < l.length) : restB l b n i = (if b + n < i then [58] else []) ++ hex8 (l.getD i 0) ++ restB l b n (i + 1) := by
  have hl : (l.drop (b + n)).length = l.length - (b + n) := List.length_drop
  have hg : (l.drop (b + n)).getD (i - (b + n)) 0 = l.getD i 0 := by
    rw [List.getD_eq_getElem?_getD, List.getD_eq_getElem?_getD, List.getElem?_drop, show b + n + (i - (b + n)) = i by omega]
  rw [restB_gt (i := i) (by omega), restB_gt (i := i + 1) (by omega), restA_step (by omega), hg, show i + 1 - (b + n) = i - (b + n) + 1 by omega]
  by_cases h2 : b + n < i
  · rw [if_pos (by omega), if_pos h2]
  · rw [if_neg (by omega), if_neg h2]
theorem restB_end {l : List Nat} {b n i : Nat} (hi : l.length ≤ i) (hb : b < i) : restB l b n i = [] := by
  unfold restB
  rw [if_neg (by omega), restA_end (by rw [List.length_drop]; omega)]
theorem run_is {a0 a1 a2 a3 a4 a5 a6 a7 i : Nat} {l : List Nat} {r : Nat} (hl : [a0, a1, a2, a3, a4, a5, a6, a7] = l) (hr : run8 (l.drop i) = r) (w : World) (hi : i ≤ 8) (h6 : ∀ n ∈ l, n < 65536) :
    Calls Tryd.prog 16 #[.agg #[.int .u16 (a0 : Int), .int .u16 (a1 : Int), .int .u16 (a2 : Int), .int .u16 (a3 : Int), .int .u16 (a4 : Int), .int .u16 (a5 : Int), .int .u16 (a6 : Int), .int .u16 (a7 : Int)], .int .i64 (i : Int)] w fun e w' => e = .returned (.int .i64 (r : Int)) ∧ Below w.heap.size w w' := by
  subst hl hr
  exact run_any a0 a1 a2 a3 a4 a5 a6 a7 i w hi h6
theorem hex_is {n : Nat} {t : ByteArray} (h : btx (hex8 n) = t) (hn : n < 65536) (w : World) : Calls Tryd.prog 13 #[.int .u16 (n : Int)] w fun e w' => e = .returned (.string t) ∧ Below w.heap.size w w' := by
  have := hex_any n w hn
  rw [h] at this
  exact this
end Go.Proofs.YtfodkkdggajjaaaDoor

/-
  The document's answers of layer 2 (bytes, Encode, Decode, Valid), by their contracts.
-/
import Derived.Test.YtcndcdkcbkjbaaaDoorRef
namespace Go.Proofs.YtcndcdkcbkjbaaaDoor
open Go.RowKit

theorem Tryd.infoB : (Tryd.prog.info? 5).map (fun i => (i.zero, i.size, i.bytes)) = some (some (.int .u8 0), 1, 1) := by kernel_rfl

/-- The values of bytes. -/
def cellsOf (l : List UInt8) : List Value := l.map fun c => Value.int .u8 (c.toNat : Int)

/-- A slice of bytes that the call made itself. -/
def MadeB (w w' : World) (v : Value) (l : List UInt8) : Prop :=
  w'.ownsRow w.heap.size 5 1 v l.length (cellsOf l) ∧ Below w.heap.size w w'

theorem MadeB.carry {w w1 w2 : World} {v : Value} {l : List UInt8} (h : MadeB w w1 v l) (hb : Below w1.heap.size w1 w2) : MadeB w w2 v l :=
  ⟨own_below h.1 hb, h.2.trans (hb.mono h.2.size)⟩

def BytesPost (c : Int) (w : World) (e : Ending) (w' : World) : Prop :=
  w.alloc (.cells (cellsOf (enc1 c)).toArray 5) = w' ∧ e = .returned (.slice (some ⟨w.heap.size, 0, none⟩) (enc1 c).length (enc1 c).length)

theorem cells1 (c : Int) (h0 : 0 ≤ c) (h1 : c < 128) : (cellsOf (enc1 c)).toArray = #[Value.int .u8 c] ∧ (enc1 c).length = 1 := by
  rw [enc1_one c h0 h1]
  refine ⟨?_, rfl⟩
  simp only [cellsOf, List.map, ofNat_toNat c.toNat (by omega)]
  rw [show ((c.toNat : Nat) : Int) = c by omega]
theorem cells2 (c : Int) (h0 : 128 ≤ c) (h1 : c < 2048) : (cellsOf (enc1 c)).toArray = #[Value.int .u8 (192 + c / 64), Value.int .u8 (128 + c % 64)] ∧ (enc1 c).length = 2 := by
  rw [enc1_two c h0 h1]
  refine ⟨?_, rfl⟩
  simp only [cellsOf, List.map, ofNat_toNat (192 + c.toNat / 64) (by omega), ofNat_toNat (128 + c.toNat % 64) (by omega)]
  rw [show ((192 + c.toNat / 64 : Nat) : Int) = 192 + c / 64 by omega, show ((128 + c.toNat % 64 : Nat) : Int) = 128 + c % 64 by omega]
theorem cells3 (c : Int) (h0 : 2048 ≤ c) (h1 : c < 65536) (h2 : c < 55296 ∨ 57343 < c) : (cellsOf (enc1 c)).toArray = #[Value.int .u8 (224 + c / 4096), Value.int .u8 (128 + c / 64 % 64), Value.int .u8 (128 + c % 64)] ∧ (enc1 c).length = 3 := by
  rw [enc1_three c h0 h1 h2]
  refine ⟨?_, rfl⟩
  simp only [cellsOf, List.map, ofNat_toNat (224 + c.toNat / 4096) (by omega), ofNat_toNat (128 + c.toNat / 64 % 64) (by omega), ofNat_toNat (128 + c.toNat % 64) (by omega)]
  rw [show ((224 + c.toNat / 4096 : Nat) : Int) = 224 + c / 4096 by omega, show ((128 + c.toNat / 64 % 64 : Nat) : Int) = 128 + c / 64 % 64 by omega, show ((128 + c.toNat % 64 : Nat) : Int) = 128 + c % 64 by omega]
theorem cells4 (c : Int) (h0 : 65536 ≤ c) (h1 : c ≤ 1114111) : (cellsOf (enc1 c)).toArray = #[Value.int .u8 (240 + c / 262144), Value.int .u8 (128 + c / 4096 % 64), Value.int .u8 (128 + c / 64 % 64), Value.int .u8 (128 + c % 64)] ∧ (enc1 c).length = 4 := by
  rw [enc1_four c h0 h1]
  refine ⟨?_, rfl⟩
  simp only [cellsOf, List.map, ofNat_toNat (240 + c.toNat / 262144) (by omega), ofNat_toNat (128 + c.toNat / 4096 % 64) (by omega), ofNat_toNat (128 + c.toNat / 64 % 64) (by omega), ofNat_toNat (128 + c.toNat % 64) (by omega)]
  rw [show ((240 + c.toNat / 262144 : Nat) : Int) = 240 + c / 262144 by omega, show ((128 + c.toNat / 4096 % 64 : Nat) : Int) = 128 + c / 4096 % 64 by omega, show ((128 + c.toNat / 64 % 64 : Nat) : Int) = 128 + c / 64 % 64 by omega, show ((128 + c.toNat % 64 : Nat) : Int) = 128 + c % 64 by omega]

theorem cellsOf_append (a b : List UInt8) : cellsOf (a ++ b) = cellsOf a ++ cellsOf b := by simp [cellsOf]
theorem cellsOf_one (l : List UInt8) : ∀ u ∈ cellsOf l, u.oneCell' = true := by
  intro u hu
  obtain ⟨c, _, rfl⟩ := List.mem_map.1 hu
  rfl
theorem MadeB.push {w wr w1 : World} {v v' : Value} {t l : List UInt8} {tmp : Obj} (h : MadeB w wr v l)
    (hown : w1.ownsRow w.heap.size 5 1 v' (l.length + t.length) (cellsOf l ++ cellsOf t)) (hg : (wr.alloc tmp).grownBy w1 v.ownBlock) : MadeB w w1 v' (l ++ t) := by
  refine ⟨by rw [cellsOf_append, List.length_append]; exact hown, (h.2.alloc h.2.size tmp).grown hg (by have := h.2.size; simp; omega) (own_ge h.1)⟩

theorem cells_new (w : World) (l : List Value) (t : TypeId) (j : Nat) (u : Value) (h : l[j]? = some u) : (w.alloc (.cells l.toArray t)).cell? ((⟨w.heap.size, 0, none⟩ : Addr).add j) = some u := by
  rw [add_at, World.cell?_alloc_at _ _ _ _ rfl, Nat.zero_add]
  simpa using h

def EncPost (l : List Int) (w : World) (e : Ending) (w' : World) : Prop :=
  ∃ t : ByteArray, t.data.toList = enc l ∧ e = .returned (.string t) ∧ Below w.heap.size w w'

theorem convert_bytes {w w' : World} {v : Value} {l : List UInt8} (h : MadeB w w' v l) : (convert 47 9 v).run Tryd.prog w' = .ok (.string ⟨l.toArray⟩) w' := by
  rcases h.1.2 with ⟨rfl, h0⟩ | ⟨g, cap, cur, rfl, _⟩
  · obtain rfl := List.eq_nil_of_length_eq_zero h0
    rw [run_convert_bytes_string w' _ _ _ _ _ _ Tryd.underlying47 Tryd.underlying5 Tryd.underlying9]
    rfl
  · exact run_convert_bytes_back w' _ _ _ ⟨g, 0, none⟩ cap l Tryd.underlying47 Tryd.underlying5 Tryd.underlying9 (fun j hj => by
      rw [add_at, Nat.zero_add, h.1.cellAt (g := g) j (by omega)]
      simp [cellsOf, hj])

theorem enc_take (l : List Int) (k : Nat) (h : k < l.length) : enc (l.take (k + 1)) = enc (l.take k) ++ enc1 l[k] := by
  unfold enc
  rw [List.take_succ_eq_append_getElem h, List.flatMap_append, List.flatMap_cons, List.flatMap_nil, List.append_nil]

end Go.Proofs.YtcndcdkcbkjbaaaDoor

/-
  The document's made of layer 5, by their contracts.
-/
import Derived.Test.YtjhppkbaidcliaaDoorKMath
import Derived.Test.YtjhppkbaidcliaaDoorRef3
namespace Go.Proofs.YtjhppkbaidcliaaDoor
open Go.RowKit

/-- Where made's two tables lie. -/
def Tabs (w wr : World) : Prop := (∀ k p, pairs[k]? = some p → wr.cell? ⟨w.heap.size, k, none⟩ = some (.int .i32 p.2.2) ∧ wr.cell? ⟨w.heap.size + 1, k, none⟩ = some (.int .i32 p.2.1)) ∧ Below w.heap.size w wr
theorem tabs_new (w : World) : Tabs w ((w.alloc (.cells (pairs.map fun p => Value.int .i32 p.2.2).toArray 21)).alloc (.cells (pairs.map fun p => Value.int .i32 p.2.1).toArray 21)) := by
  refine ⟨fun k p hp => ⟨?_, ?_⟩, ((Below.refl _ _).alloc (Nat.le_refl _) _).alloc (by simp) _⟩
  · have h0 := cells_new w (pairs.map fun p => Value.int .i32 p.2.2) 21 k (.int .i32 p.2.2) (by rw [List.getElem?_map, hp]; rfl)
    rw [add_at, Nat.zero_add] at h0
    have hb : Below (w.alloc (.cells (pairs.map fun p => Value.int .i32 p.2.2).toArray 21)).heap.size (w.alloc (.cells (pairs.map fun p => Value.int .i32 p.2.2).toArray 21)) ((w.alloc (.cells (pairs.map fun p => Value.int .i32 p.2.2).toArray 21)).alloc (.cells (pairs.map fun p => Value.int .i32 p.2.1).toArray 21)) := (Below.refl _ _).alloc (Nat.le_refl _) _
    exact (hb.cell (p := ⟨w.heap.size, k, none⟩) (by simp)).trans h0
  · have h0 := cells_new (w.alloc (.cells (pairs.map fun p => Value.int .i32 p.2.2).toArray 21)) (pairs.map fun p => Value.int .i32 p.2.1) 21 k (.int .i32 p.2.1) (by rw [List.getElem?_map, hp]; rfl)
    rw [add_at, Nat.zero_add] at h0
    simpa using h0
theorem pairs_byte : ∀ p ∈ pairs, 0 ≤ p.1 ∧ p.1 ≤ 255 := by decide +kernel
theorem of_fin : ∀ k : Fin 27, ((({ data := #[97, 97, 97, 97, 97, 97, 99, 101, 101, 101, 101, 105, 105, 105, 105, 110, 111, 111, 111, 111, 111, 117, 117, 117, 117, 121, 121] } : ByteArray)[k.val]'k.isLt).toNat : Int) = (pairs[k.val]'k.isLt).1 := by decide +kernel
theorem madeIn_drop {k : Nat} (h : k < 27) (c m : Int) : madeIn (pairs.drop k) c m = if c = (pairs[k]'h).1 ∧ m = (pairs[k]'h).2.1 then (pairs[k]'h).2.2 else madeIn (pairs.drop (k + 1)) c m := by
  rw [List.drop_eq_getElem_cons (l := pairs) (i := k) h]
  rfl
def MadeR (c m : Int) (w : World) (e : Ending) (w' : World) : Prop := e = .returned (.int .i32 (madeOf c m)) ∧ Below w.heap.size w w'

set_option maxHeartbeats 1000000 in
set_option maxRecDepth 100000 in
theorem made_any (c m : Int) (w : World) :
    Calls Tryd.prog 25 #[.int .i32 c, .int .i32 m] w (MadeR c m w) := by
  go_enter Tryd.func25, Tryd.ntmps25
  go_wp2
  go_loopw [8] (fun i wr => ∃ k : Nat, k ≤ 27 ∧ i = .int .i64 k ∧ Tabs w wr ∧ madeIn (pairs.drop k) c m = madeOf c m) (fun i _ => 27 - (intOf i).toNat)
  case atStart => exact ⟨0, Nat.zero_le _, rfl, tabs_new w, rfl⟩
  case round =>
    obtain ⟨k, hk, rfl, ht, hin⟩ := hrel
    have HT := Lib.hid ht
    by_cases hlt : k < 27
    · have hof := of_fin ⟨k, hlt⟩
      rw [madeIn_drop hlt] at hin
      obtain ⟨hc1, hc2⟩ := ht.1 k (pairs[k]'hlt) (List.getElem?_eq_getElem (l := pairs) hlt)
      obtain ⟨p, hp⟩ : ∃ p, (pairs[k]'hlt) = p := ⟨_, rfl⟩
      have ha := pairs_byte _ (List.getElem_mem (l := pairs) hlt)
      simp only [hp] at hof hin hc1 hc2 ha
      obtain ⟨a, b, z⟩ := p
      simp only at hof hin hc1 hc2 ha
      obtain ⟨ha0, ha1⟩ := ha
      clear hp ht
      by_cases hca : c = a
      · by_cases hmb : m = b
        · rw [if_pos ⟨hca, hmb⟩] at hin
          have HI := Lib.hid hin
          have e1 : (c == a) = true := beq_iff_eq.2 hca
          have e2 : (m == b) = true := beq_iff_eq.2 hmb
          clear hin hca hmb
          go_wp2
          go_ret
          exact ⟨ret_int HI.out, HT.out.2⟩
        · rw [if_neg (fun e => hmb e.2)] at hin
          have HI := Lib.hid hin
          have e1 : (c == a) = true := beq_iff_eq.2 hca
          have e2 : (m == b) = false := beq_eq_false_iff_ne.2 hmb
          clear hin hca hmb
          go_wp2
          go_roundw
          case rel => exact ⟨k + 1, by omega, by go_num, HT.out, HI.out⟩
          case measure => simp [intOf]; omega
      · rw [if_neg (fun e => hca e.1)] at hin
        have HI := Lib.hid hin
        have e1 : (c == a) = false := beq_eq_false_iff_ne.2 hca
        clear hin hca
        go_wp2
        go_roundw
        case rel => exact ⟨k + 1, by omega, by go_num, HT.out, HI.out⟩
        case measure => simp [intOf]; omega
    · have HI : Hid (madeOf c m = 0) := by
        show madeOf c m = 0
        rw [← hin, List.drop_eq_nil_of_le (by show 27 ≤ k; omega)]
        rfl
      clear hin ht
      go_wp2
      go_ret
      exact ⟨ret_int HI.out.symm, HT.out.2⟩
end Go.Proofs.YtjhppkbaidcliaaDoor

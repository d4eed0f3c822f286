/-
  From the rows' conditions to what the walks ask: a slice's length and capacity.
-/
import Derived.Test.YtjhppkbaidcliaaDoorLift
namespace Go.Proofs.YtjhppkbaidcliaaDoor
open Go.ChangeShapes Go.WideShapes Go.ChangeAt Go.RowKit

theorem cap_of_trod {H : Type} {enc : TypeId × Value → H} {W : World} {A : Option Addr} {len cap : Nat} {d : DataW H} {p : List MemPlace}
    (h : DataW.Trod enc Tryd.prog W 0 (fun _ => true) true 23 (.slice A len cap) d p) : len ≤ cap := by
  obtain ⟨fuel, hf⟩ := h
  rcases open_ints Tryd.underlying23 Tryd.underlying21 (by kernel_rfl) hf with ⟨hcs, _⟩ | ⟨a, l, c, zs, hcs, _, hl, hm, hz, _, hcell, _⟩
  · simp [Value.cells] at hcs
    obtain ⟨rfl, rfl, rfl⟩ := hcs
    exact Nat.le_refl _
  · simp [Value.cells] at hcs
    obtain ⟨rfl, rfl, rfl⟩ := hcs
    omega
theorem rng_of_trod {H : Type} {enc : TypeId × Value → H} {W : World} {A : Option Addr} {l : List Int} {cap : Nat} {d : DataW H} {p : List MemPlace}
    (h : DataW.Trod enc Tryd.prog W 0 (fun _ => true) true 23 (.slice A l.length cap) d p) (hr : Runes W A l) : ∀ c ∈ l, -2147483648 ≤ c ∧ c < 2147483648 := by
  intro c hc
  obtain ⟨i, hi, rfl⟩ := List.mem_iff_getElem.1 hc
  obtain ⟨b, off, rfl, _, hcell0⟩ := hr i l[i] (List.getElem?_eq_getElem hi)
  obtain ⟨fuel, hf⟩ := h
  rcases open_ints Tryd.underlying23 Tryd.underlying21 (by kernel_rfl) hf with ⟨hcs, _⟩ | ⟨a, len, c2, zs, hcs, _, hl, hm, hz, _, hcell, hwf⟩
  · simp [Value.cells] at hcs
  · simp [Value.cells] at hcs
    obtain ⟨rfl, rfl, rfl⟩ := hcs
    have hz' : zs.length = cap := by simpa using hz
    have hc2 := hcell i (by omega)
    rw [add_plain, hcell0] at hc2
    have e : l[i] = zs.getD i 0 := by simpa using hc2
    have hmem : zs.getD i 0 ∈ zs := by
      rw [List.getD_eq_getElem?_getD, List.getElem?_eq_getElem (by omega)]
      exact List.getElem_mem _
    have := bounds_i32 (hwf _ hmem)
    rw [e]
    omega
end Go.Proofs.YtjhppkbaidcliaaDoor

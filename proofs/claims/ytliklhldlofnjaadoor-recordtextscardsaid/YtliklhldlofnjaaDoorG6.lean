/-
  In this text, one behind the other: PthRef2, PthText.
-/
import Derived.BigQuiet
import Derived.Deep.Light
import Derived.Deep.QuietTactic
import Derived.Deep.RegionHeld3
import Derived.IntWalk
import Derived.LaidEql
import Derived.Laws.BitsLemmas
import Derived.Laws.Cover4
import Derived.Lib.Hide
import Derived.Maps.AppendAt
import Derived.RowKitTokens
import Derived.Stop.Asserts
import Derived.WalkKit
import Derived.WalkLawsBesides
import Derived.WalkSpells
import Derived.Test.YtliklhldlofnjaaDoorRows
import Derived.Test.YtliklhldlofnjaaDoorG1
import Derived.Test.YtliklhldlofnjaaDoorG4
import Derived.Test.YtliklhldlofnjaaDoorG5
/-
  The document's Starts, Shorten and Text of layer 11, by their contracts.
-/
namespace Go.Proofs.YtliklhldlofnjaaDoor
open Go.RowKit

/-- A slice of texts that reads as a list of segments. -/
def Segs (w : World) (A : Option Addr) (ps : List Seg) : Prop := Strs w A (ps.map txt10)
theorem Segs.below {w w' : World} {A : Option Addr} {ps : List Seg} (h : Segs w A ps) (hb : Below w.heap.size w w') : Segs w' A ps := Strs.below h hb
theorem Segs.at {w : World} {A : Option Addr} {ps : List Seg} (h : Segs w A ps) {i : Nat} {p : Seg} (hp : ps[i]? = some p) : ∃ b off, A = some ⟨b, off, none⟩ ∧ b < w.heap.size ∧ w.cell? ⟨b, off + i, none⟩ = some (.string (txt10 p)) :=
  h i (txt10 p) (by rw [List.getElem?_map, hp]; rfl)
end Go.Proofs.YtliklhldlofnjaaDoor

/-
  The document's Text of layer 11, by its contract.
-/
namespace Go.Proofs.YtliklhldlofnjaaDoor
open Go.RowKit

def Wee (ps : List Seg) : Prop := ps.length ≤ 100 ∧ ∀ p ∈ ps, p.length ≤ 1000
theorem txt11_take {ps : List Seg} {k : Nat} (h : k < ps.length) : txt11 (ps.take (k + 1)) = txt11 (ps.take k) ++ 47 :: ps[k] := by
  unfold txt11
  rw [List.take_succ_eq_append_getElem h, List.flatMap_append]
  simp
theorem txt11_len : ∀ (ps : List Seg), (∀ p ∈ ps, p.length ≤ 1000) → (txt11 ps).length ≤ 1001 * ps.length
  | [], _ => by simp [txt11]
  | p :: ps, h => by
    have h1 := h p (List.mem_cons_self ..)
    have h2 := txt11_len ps (fun q hq => h q (List.mem_cons_of_mem _ hq))
    have e : txt11 (p :: ps) = (47 :: p) ++ txt11 ps := rfl
    rw [e, List.length_append, List.length_cons, List.length_cons]
    omega
theorem txt10_join (a b : Seg) : txt10 a ++ ⟨#[47]⟩ ++ txt10 b = txt10 (a ++ 47 :: b) := by
  refine ByteArray.ext (Array.toList_inj.1 ?_)
  simp [ByteArray.data_append, txt10]
def Text11 (s : ByteArray) (w : World) (e : Ending) (w' : World) : Prop := e = .returned (.string s) ∧ w = w'
set_option maxHeartbeats 1000000 in
set_option maxRecDepth 100000 in
theorem refText11_any (A : Option Addr) (ps : List Seg) (n c : Nat) (hn : ps.length = n) (w : World) (h : Segs w A ps) (hw : Wee ps) :
    Calls Tryd.prog 23 #[.slice A n c] w (Text11 (txt10 (txt11 ps)) w) := by
  obtain ⟨hl, hp⟩ := hw
  have hn100 : n ≤ 100 := by omega
  go_enter Tryd.func23, Tryd.ntmps23
  go_wp2
  go_loop [3, 4] (fun o i => ∃ k : Nat, k ≤ n ∧ i = .int .i64 k ∧ o = .string (txt10 (txt11 (ps.take k)))) (fun _ i => n - (intOf i).toNat)
  case atStart => exact ⟨0, Nat.zero_le _, rfl, rfl⟩
  case round =>
    obtain ⟨k, hk, rfl, rfl⟩ := hrel
    by_cases hlt : k < n
    · have hkp : k < ps.length := by omega
      obtain ⟨b, off, rfl, hb, hcell⟩ := h.at (List.getElem?_eq_getElem hkp)
      have hs : (txt11 (ps.take k)).length ≤ 1001 * (ps.take k).length := txt11_len _ (fun p h => hp p (List.mem_of_mem_take h))
      have hs2 : (ps.take k).length ≤ k := List.length_take_le _ _
      have hq := hp _ (List.getElem_mem hkp)
      have HT := Lib.hid (txt11_take hkp)
      obtain ⟨x, hx⟩ : ∃ x, txt11 (ps.take k) = x := ⟨_, rfl⟩
      obtain ⟨p, hpe⟩ : ∃ p, ps[k] = p := ⟨_, rfl⟩
      rw [hx, hpe] at HT
      rw [hx] at hs ⊢
      rw [hpe] at hcell hq
      have HJ := Lib.hid (txt10_join x p)
      have z1 : (txt10 x).size ≤ 200000 := by rw [txt10_size]; omega
      have z2 : (txt10 p).size ≤ 1000 := by rw [txt10_size]; exact hq
      obtain ⟨X, hX⟩ : ∃ X, txt10 x = X := ⟨_, rfl⟩
      obtain ⟨P, hP⟩ : ∃ X, txt10 p = X := ⟨_, rfl⟩
      rw [hX] at z1 ⊢
      rw [hP] at z2 hcell
      rw [hX, hP] at HJ
      clear hx hpe hX hP hs hs2 hq hp hkp h
      go_wp2
      go_round
      case rel => exact ⟨k + 1, by omega, by go_num, by rw [HT.out, ← HJ.out]⟩
      case measure => simp [intOf]; omega
    · have HE : Hid (txt11 (ps.take k) = txt11 ps) := by
        show _ = _
        rw [List.take_of_length_le (by omega)]
      clear hp h
      go_wp2
      go_ret
      exact ⟨by rw [← HE.out]; rfl, rfl⟩
theorem rtext_is {ps : List Seg} {t : ByteArray} (h : txt10 (txt11 ps) = t) (A : Option Addr) (n c : Nat) (hn : ps.length = n) (w : World) (hs : Segs w A ps) (hw : Wee ps) :
    Calls Tryd.prog 23 #[.slice A n c] w fun e w' => e = .returned (.string t) ∧ w = w' := h ▸ refText11_any A ps n c hn w hs hw
end Go.Proofs.YtliklhldlofnjaaDoor

/-
  In this text, one behind the other: SixJoin.
-/
import Derived.BigQuiet
import Derived.Deep.AppendLies
import Derived.Deep.Light
import Derived.Deep.QuietTactic
import Derived.Deep.RegionHeld3
import Derived.Deep.RegionWith
import Derived.IntWalk
import Derived.LaidEql
import Derived.Laws.Bits64b
import Derived.Laws.BitsLemmas
import Derived.Laws.Cover4
import Derived.Laws.IdiomStrings
import Derived.Lib.Hide
import Derived.Lib.IndexBytes
import Derived.Lib.IndexMore
import Derived.Lib.Join
import Derived.Lib.ParseIntB
import Derived.Maps.AppendAt
import Derived.RowKitTokens
import Derived.Shelf.Spec.TrailingZeros
import Derived.Shelf.Strings.OnBuilder
import Derived.Stop.Asserts
import Derived.WalkKit
import Derived.WalkLawsBesides
import Derived.WalkSpells
import Derived.Test.YtliklhldlofnjaaDoorRows
import Derived.Test.YtliklhldlofnjaaDoorG15
/-
  The program's join of layer 8, by its contract.
-/
namespace Go.Proofs.YtliklhldlofnjaaDoor
open Go.RowKit Go.Shelf

set_option maxHeartbeats 1000000 in
theorem fmtI_any (n : Nat) (hn : n < 65536) (w : World) (hv : V8 w) :
    Calls Tryd.prog 59 #[.int .u64 (n : Int), .int .i64 16] w fun e w' => e = .returned (.string (btx (hex8 n))) ∧ Below w.heap.size w w' := by
  have HV := Lib.hid hv
  clear hv
  go_enter Tryd.func59, Tryd.ntmps59
  go_wp2_with (go_at_call 52; refine (fmt_any n hn _ HV.out).mono ?_; rintro e w1 ⟨rfl, hb⟩; have HB := Lib.hid hb; clear hb)
  go_ret
  exact ⟨rfl, HB.out⟩
theorem fmtP_any (n : Nat) (hn : n < 65536) (w : World) (hv : V8 w) :
    Calls Tryd.prog 53 #[.int .u64 (n : Int), .int .i64 16] w fun e w' => e = .returned (.string (btx (hex8 n))) ∧ Below w.heap.size w w' := by
  have HV := Lib.hid hv
  clear hv
  go_enter Tryd.func53, Tryd.ntmps53
  go_wp2_with (go_at_call 59; refine (fmtI_any n hn _ HV.out).mono ?_; rintro e w1 ⟨rfl, hb⟩; have HB := Lib.hid hb; clear hb)
  go_ret
  exact ⟨rfl, HB.out⟩

theorem joinExtra : Builder.Extra Tryd.prog lays156_ren := {
  sizeBuilder := by kernel_rfl
  liesBuilder := by kernel_rfl
  t5 := Tryd.underlying5
  a5 := Tryd.isAgg5
  z5 := Tryd.sizeOf5
  v5 := Tryd.zeroValue5
  infoByte := by kernel_rfl
  cellsByte := by kernel_rfl
  sizeByte := by kernel_rfl
  neB5 := by decide }
theorem join8_lib : ∀ c : List Nat, Lib.join (c.map hex8) [58] = join8 c := by
  intro c
  induction c with
  | nil => rfl
  | cons n l ih =>
    cases l with
    | nil => simp [Lib.join_one, join8]
    | cons m l =>
      rw [join8, ← ih]
      simp [Lib.join, List.intercalate]
theorem joinS_any {w : World} {B : Nat} {v : Value} {c : List Nat} (h : MadeS B w v (c.map hex8)) (hc : c.length ≤ 8) (h6 : ∀ n ∈ c, n < 65536) :
    Calls Tryd.prog 26 #[v, .string ⟨#[58]⟩] w fun e w' => e = .returned (.string (btx (join8 c))) ∧ Below w.heap.size w w' := by
  obtain ⟨A, cap, rfl, hcap, hstr⟩ := h.strs
  cases c with
  | nil =>
    refine (Any.strings_Join_none lays156 joinExtra A cap ⟨#[58]⟩ w).mono ?_
    rintro e w' ⟨rfl, rfl⟩
    exact ⟨rfl, Below.refl _ _⟩
  | cons n l =>
    obtain ⟨b, off, rfl, hb, _⟩ := hstr 0 (btx (hex8 n)) rfl
    have hl : (((n :: l).map hex8).map btx).length = ((n :: l).map hex8).length := List.length_map ..
    have hj : (((n :: l).map hex8).map btx).map (·.data.toList) = (n :: l).map hex8 := by
      rw [List.map_map]
      exact List.map_id _
    have h5 := (join8_len (n :: l) h6).1
    have hs := Any.strings_Join lays156 joinExtra b off cap (((n :: l).map hex8).map btx) ⟨#[58]⟩ w (fun j x hx => by
      obtain ⟨b', off', e, _, h2⟩ := hstr j x hx
      cases e
      exact h2) hb (by rw [hl, List.length_map]; omega) (by rw [hl]; exact hcap) (by
      rw [hj]
      show (Lib.join ((n :: l).map hex8) [58]).length ≤ _
      rw [join8_lib]
      omega)
    rw [hl] at hs
    refine hs.mono ?_
    rintro e w' ⟨rfl, hbw⟩
    refine ⟨?_, hbw⟩
    rw [hj]
    show Ending.returned (.string ⟨(Lib.join ((n :: l).map hex8) [58]).toArray⟩) = _
    rw [join8_lib]
    rfl
theorem take_map8 {c : List Nat} {k n : Nat} (hx : c[k]? = some n) : (c.take (k + 1)).map hex8 = (c.take k).map hex8 ++ [hex8 n] := by
  rw [List.take_add_one, hx, List.map_append]
  rfl
set_option maxHeartbeats 2000000 in
set_option maxRecDepth 100000 in
theorem join_any (g off cap : Nat) (c : List Nat) (w : World) (hv : V8 w) (hc : c.length ≤ 8) (h6 : ∀ n ∈ c, n < 65536) (hcells : ∀ (j x : Nat), c[j]? = some x → w.cell? ⟨g, off + j, none⟩ = some (.int .u16 (x : Int))) :
    Calls Tryd.prog 46 #[.slice (some ⟨g, off, none⟩) c.length cap] w fun e w' => e = .returned (.string (btx (join8 c))) ∧ Below w.heap.size w w' := by
  have HV := Lib.hid hv
  have HC := Lib.hid hcells
  have H6 := Lib.hid h6
  clear hv hcells h6
  go_enter Tryd.func46, Tryd.ntmps46
  go_wp2
  go_loopw [3, 8] (fun v i wr => ∃ k : Nat, k ≤ c.length ∧ i = .int .i64 k ∧ MadeS w.heap.size wr v ((c.take k).map hex8) ∧ Below w.heap.size w wr) (fun _ i _ => c.length - (intOf i).toNat)
  case atStart => exact ⟨0, by omega, rfl, World.ownsRow_nil _ _ _ _, Below.refl _ _⟩
  case round =>
    obtain ⟨k, hk, rfl, hms, hbl⟩ := hrel
    have hsz := hbl.size
    have HMs := Lib.hid hms
    have HBl := Lib.hid hbl
    have HVr := Lib.hid (HV.out.below hbl)
    clear hms hbl
    by_cases hlt : k < c.length
    · have hx := List.getElem?_eq_getElem hlt
      have hx6 := H6.out _ (List.getElem_mem hlt)
      obtain ⟨x, hxx⟩ : ∃ x, c[k] = x := ⟨_, rfl⟩
      rw [hxx] at hx hx6
      have hc0 := HC.out k x hx
      have hcell := (HBl.out.cell (p := ⟨g, off + k, none⟩) (cell_lt8 hc0)).trans hc0
      have HTk := Lib.hid (take_map8 hx)
      clear hxx hx hc0
      go_wp2_with (first
        | (go_at_call 53; refine (fmtP_any x hx6 _ HVr.out).mono ?_; rintro e w1 ⟨rfl, hb⟩; have HM1 := Lib.hid (HMs.out.below hb); have HB1 := Lib.hid (bnx8 HBl.out hb); clear hb)
        | (at_builtin; refine append_text rfl (.tmp 12) (.tmp 16) rfl w.heap.size _ _ (hex8 x) _ rfl rfl rfl HM1.out (by rw [List.length_map, List.length_take]; omega) HB1.out.size ?_; intro v2 w2 hm2 hb2; have HM2 := Lib.hid hm2; have HB2 := Lib.hid (HB1.out.trans hb2); clear hm2 hb2))
      go_roundw
      case rel => exact ⟨k + 1, by omega, by go_num, by rw [HTk.out]; exact HM2.out, HB2.out⟩
      case measure => simp [intOf]; omega
    · obtain rfl : k = c.length := by omega
      have hm := HMs.out
      rw [List.take_length] at hm
      have HM1 := Lib.hid hm
      clear hm
      go_wp2_with (go_at_call 26; (with_reducible refine (joinS_any HM1.out hc H6.out).mono ?_); rintro e w1 ⟨rfl, hb⟩; have HB1 := Lib.hid (bnx8 HBl.out hb); clear hb)
      go_ret
      exact ⟨rfl, HB1.out⟩
end Go.Proofs.YtliklhldlofnjaaDoor

/-
  In this text, one behind the other: PthGText.
-/
import Derived.ArgAppend
import Derived.BigQuiet
import Derived.Deep.Light
import Derived.Deep.QuietTactic
import Derived.Deep.RegionHeld3
import Derived.IntWalk
import Derived.LaidEql
import Derived.Laws.AppendOwnNone
import Derived.Laws.BitsLemmas
import Derived.Laws.Cover4
import Derived.Lib.Bytealg
import Derived.Lib.Hide
import Derived.Lib.SliceRun
import Derived.Maps.AppendAt
import Derived.RowKitTokens
import Derived.Shelf.Strings.Builder1
import Derived.Stop.Asserts
import Derived.WalkKit
import Derived.WalkLawsBesides
import Derived.WalkSpells
import Derived.Test.YtliklhldlofnjaaDoorRows
import Derived.Test.YtliklhldlofnjaaDoorG25
import Derived.Test.YtliklhldlofnjaaDoorG26
/-
  The program's Text of layer 11, by its contract; all of the program's contracts of layer 11 (written by mkpthg.py).
-/
namespace Go.Proofs.YtliklhldlofnjaaDoor
open Go.RowKit

/-- A builder of the call's own, that holds l. -/
def BldP (w : World) (l : List UInt8) (wr : World) : Prop := Bld w.heap.size w.heap.size l wr ∧ Below w.heap.size w wr
theorem BldP.new (w : World) : BldP w [] (w.alloc (.cells #[.pointer none, .slice none 0 0] 52)) :=
  ⟨Lib.fresh_isBuilder 52 5 w, (Below.refl _ _).alloc (Nat.le_refl _) _⟩
theorem BldP.byte {w wr : World} {l : List UInt8} (h : BldP w l wr) (c : UInt8) (x : Int) (hx : x = (c.toNat : Int)) (hl : l.length ≤ 900000) :
    Calls Tryd.prog 31 #[.pointer (some ⟨w.heap.size, 0, none⟩), .int .u8 x] wr fun e w' => e = .returned .nilIface ∧ BldP w (l ++ [c]) w' := by
  refine (bld_byte _ _ l c x wr h.1 hx (by omega) h.2.size).mono ?_
  rintro e w' ⟨rfl, h1, h2⟩
  exact ⟨rfl, h1, h.2.trans h2⟩
theorem BldP.text {w wr : World} {l : List UInt8} (h : BldP w l wr) (s : ByteArray) (hl : l.length ≤ 900000) (hs : s.size ≤ 90000) :
    Calls Tryd.prog 32 #[.pointer (some ⟨w.heap.size, 0, none⟩), .string s] wr fun e w' => e = .returned (.tuple #[.int .i64 s.size, .nilIface]) ∧ BldP w (l ++ s.data.toList) w' := by
  refine (bld_text _ _ l s wr h.1 (by omega) h.2.size).mono ?_
  rintro e w' ⟨rfl, h1, h2⟩
  exact ⟨rfl, h1, h.2.trans h2⟩
theorem BldP.done {w wr : World} {l : List UInt8} (h : BldP w l wr) :
    Calls Tryd.prog 33 #[.pointer (some ⟨w.heap.size, 0, none⟩)] wr fun e w' => e = .returned (.string (txt10 l)) ∧ Below w.heap.size w w' := by
  refine (bld_done _ _ l wr h.1 h.2.size).mono ?_
  rintro e w' ⟨rfl, h2⟩
  exact ⟨rfl, h.2.trans h2⟩

set_option maxHeartbeats 1000000 in
set_option maxRecDepth 100000 in
theorem text11_pany (A : Option Addr) (ps : List Seg) (n c : Nat) (hn : ps.length = n) (w : World) (h : Segs w A ps) (hw : Wee ps) :
    Calls Tryd.prog 22 #[.slice A n c] w (TextC11 (txt10 (txt11 ps)) w) := by
  have H0 := Lib.hid (BldP.new w)
  have HS := Lib.hid h
  obtain ⟨hl, hp⟩ := hw
  have hn100 : n ≤ 100 := by omega
  clear h
  go_enter Tryd.func22, Tryd.ntmps22
  go_wp2
  go_loopw [8] (fun i wr => ∃ k : Nat, k ≤ n ∧ i = .int .i64 k ∧ BldP w (txt11 (ps.take k)) wr) (fun i _ => n - (intOf i).toNat)
  case atStart => exact ⟨0, Nat.zero_le _, rfl, H0.out⟩
  case round =>
    obtain ⟨k, hk, rfl, hm⟩ := hrel
    have HM := Lib.hid hm
    by_cases hlt : k < n
    · have hkp : k < ps.length := by omega
      obtain ⟨b, off, rfl, hb, hcell⟩ := (HS.out.below hm.2).at (List.getElem?_eq_getElem hkp)
      have hs : (txt11 (ps.take k)).length ≤ 1001 * (ps.take k).length := txt11_len _ (fun p h => hp p (List.mem_of_mem_take h))
      have hs2 : (ps.take k).length ≤ k := List.length_take_le _ _
      have hq := hp _ (List.getElem_mem hkp)
      have HT := Lib.hid (txt11_take hkp)
      clear hm
      obtain ⟨x, hx⟩ : ∃ x, txt11 (ps.take k) = x := ⟨_, rfl⟩
      obtain ⟨p, hpe⟩ : ∃ p, ps[k] = p := ⟨_, rfl⟩
      rw [hx, hpe] at HT
      rw [hx] at hs HM
      rw [hpe] at hcell hq
      have HX : Hid (x.length ≤ 200000) := by show x.length ≤ 200000; omega
      have HQ : Hid ((txt10 p).size ≤ 1000) := by show (txt10 p).size ≤ 1000; rw [txt10_size]; exact hq
      clear hx hpe hs hs2 hq
      obtain ⟨t, ht⟩ : ∃ t, txt10 p = t := ⟨_, rfl⟩
      have HP : Hid (t.data.toList = p) := by show t.data.toList = p; rw [← ht]; rfl
      rw [ht] at hcell HQ
      clear ht
      go_wp2_with (first
        | (go_at_call 31; (with_reducible refine (HM.out.byte 47 47 rfl (by have := HX.out; omega)).mono ?_); rintro e w1 ⟨rfl, hm1⟩; have HM := Lib.hid hm1; clear hm1)
        | (go_at_call 32; (with_reducible refine (HM.out.text t (by have := HX.out; simp; omega) (by have := HQ.out; omega)).mono ?_); rintro e w2 ⟨rfl, hm2⟩; have HM := Lib.hid hm2; clear hm2))
      go_roundw
      case rel => exact ⟨k + 1, by omega, by go_num, by rw [HT.out]; have := HM.out; rw [HP.out, List.append_assoc] at this; exact this⟩
      case measure => simp [intOf]; omega
    · have HE : Hid (txt11 (ps.take k) = txt11 ps) := by
        show _ = _
        rw [List.take_of_length_le (by omega)]
      clear hm
      go_wp2_with (go_at_call 33; refine HM.out.done.mono ?_; rintro e w2 ⟨rfl, hb2⟩)
      go_ret
      exact ⟨by rw [HE.out]; rfl, hb2⟩

end Go.Proofs.YtliklhldlofnjaaDoor

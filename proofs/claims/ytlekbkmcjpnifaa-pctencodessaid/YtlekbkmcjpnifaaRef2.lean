/-
  The document's answers of layer 2 (bytes, Encode, Decode, Valid), by their contracts.
-/
import Derived.Test.YtlekbkmcjpnifaaRef
namespace Go.Proofs.Ytlekbkmcjpnifaa
open Go.RowKit

theorem Try.infoB : (Try.prog.info? 5).map (fun i => (i.zero, i.size, i.bytes)) = some (some (.int .u8 0), 1, 1) := by kernel_rfl

/-- The values of bytes. -/
def cellsOf (l : List UInt8) : List Value := l.map fun c => Value.int .u8 (c.toNat : Int)

/-- A slice of bytes that the call made itself. -/
def MadeB (w w' : World) (v : Value) (l : List UInt8) : Prop :=
  w'.ownsRow w.heap.size 5 1 v l.length (cellsOf l) ∧ Below w.heap.size w w'

theorem MadeB.carry {w w1 w2 : World} {v : Value} {l : List UInt8} (h : MadeB w w1 v l) (hb : Below w1.heap.size w1 w2) : MadeB w w2 v l :=
  ⟨own_below h.1 hb, h.2.trans (hb.mono h.2.size)⟩

def BytesPost (c : Int) (w : World) (e : Ending) (w' : World) : Prop :=
  w.alloc (.cells (cellsOf (enc1 c)).toArray 5) = w' ∧ e = .returned (.slice (some ⟨w.heap.size, 0, none⟩) (enc1 c).length (enc1 c).length)

theorem cells1 (c : Int) (h0 : 0 ≤ c) (h1 : c < 128) : (cellsOf (enc1 c)).toArray = #[Value.int .u8 c] ∧ (enc1 c).length = 1 := by
  rw [enc1_one c h0 h1]
  refine ⟨?_, rfl⟩
  simp only [cellsOf, List.map, ofNat_toNat c.toNat (by omega)]
  rw [show ((c.toNat : Nat) : Int) = c by omega]
theorem cells2 (c : Int) (h0 : 128 ≤ c) (h1 : c < 2048) : (cellsOf (enc1 c)).toArray = #[Value.int .u8 (192 + c / 64), Value.int .u8 (128 + c % 64)] ∧ (enc1 c).length = 2 := by
  rw [enc1_two c h0 h1]
  refine ⟨?_, rfl⟩
  simp only [cellsOf, List.map, ofNat_toNat (192 + c.toNat / 64) (by omega), ofNat_toNat (128 + c.toNat % 64) (by omega)]
  rw [show ((192 + c.toNat / 64 : Nat) : Int) = 192 + c / 64 by omega, show ((128 + c.toNat % 64 : Nat) : Int) = 128 + c % 64 by omega]
theorem cells3 (c : Int) (h0 : 2048 ≤ c) (h1 : c < 65536) (h2 : c < 55296 ∨ 57343 < c) : (cellsOf (enc1 c)).toArray = #[Value.int .u8 (224 + c / 4096), Value.int .u8 (128 + c / 64 % 64), Value.int .u8 (128 + c % 64)] ∧ (enc1 c).length = 3 := by
  rw [enc1_three c h0 h1 h2]
  refine ⟨?_, rfl⟩
  simp only [cellsOf, List.map, ofNat_toNat (224 + c.toNat / 4096) (by omega), ofNat_toNat (128 + c.toNat / 64 % 64) (by omega), ofNat_toNat (128 + c.toNat % 64) (by omega)]
  rw [show ((224 + c.toNat / 4096 : Nat) : Int) = 224 + c / 4096 by omega, show ((128 + c.toNat / 64 % 64 : Nat) : Int) = 128 + c / 64 % 64 by omega, show ((128 + c.toNat % 64 : Nat) : Int) = 128 + c % 64 by omega]
theorem cells4 (c : Int) (h0 : 65536 ≤ c) (h1 : c ≤ 1114111) : (cellsOf (enc1 c)).toArray = #[Value.int .u8 (240 + c / 262144), Value.int .u8 (128 + c / 4096 % 64), Value.int .u8 (128 + c / 64 % 64), Value.int .u8 (128 + c % 64)] ∧ (enc1 c).length = 4 := by
  rw [enc1_four c h0 h1]
  refine ⟨?_, rfl⟩
  simp only [cellsOf, List.map, ofNat_toNat (240 + c.toNat / 262144) (by omega), ofNat_toNat (128 + c.toNat / 4096 % 64) (by omega), ofNat_toNat (128 + c.toNat / 64 % 64) (by omega), ofNat_toNat (128 + c.toNat % 64) (by omega)]
  rw [show ((240 + c.toNat / 262144 : Nat) : Int) = 240 + c / 262144 by omega, show ((128 + c.toNat / 4096 % 64 : Nat) : Int) = 128 + c / 4096 % 64 by omega, show ((128 + c.toNat / 64 % 64 : Nat) : Int) = 128 + c / 64 % 64 by omega, show ((128 + c.toNat % 64 : Nat) : Int) = 128 + c % 64 by omega]

set_option maxHeartbeats 1000000 in
set_option maxRecDepth 100000 in
theorem bytes_any (c : Int) (w : World) (h : scal c = true) :
    Calls Try.prog 35 #[.int .i32 c] w (BytesPost c w) := by
  obtain ⟨h0, h1, h2⟩ := (scal_iff c).1 h
  clear h
  go_enter Try.func35, Try.ntmps35
  go_wp2
  all_goals
    go_ret
    first
    | (obtain ⟨e1, e2⟩ := cells1 c (by omega) (by omega); exact ⟨by rw [e1], by rw [e2]; rfl⟩)
    | (obtain ⟨e1, e2⟩ := cells2 c (by omega) (by omega); exact ⟨by rw [e1], by rw [e2]; rfl⟩)
    | (obtain ⟨e1, e2⟩ := cells3 c (by omega) (by omega) (by omega); exact ⟨by rw [e1], by rw [e2]; rfl⟩)
    | (obtain ⟨e1, e2⟩ := cells4 c (by omega) (by omega); exact ⟨by rw [e1], by rw [e2]; rfl⟩)

theorem cellsOf_append (a b : List UInt8) : cellsOf (a ++ b) = cellsOf a ++ cellsOf b := by simp [cellsOf]
theorem cellsOf_one (l : List UInt8) : ∀ u ∈ cellsOf l, u.oneCell' = true := by
  intro u hu
  obtain ⟨c, _, rfl⟩ := List.mem_map.1 hu
  rfl
theorem MadeB.push {w wr w1 : World} {v v' : Value} {t l : List UInt8} {tmp : Obj} (h : MadeB w wr v l)
    (hown : w1.ownsRow w.heap.size 5 1 v' (l.length + t.length) (cellsOf l ++ cellsOf t)) (hg : (wr.alloc tmp).grownBy w1 v.ownBlock) : MadeB w w1 v' (l ++ t) := by
  refine ⟨by rw [cellsOf_append, List.length_append]; exact hown, (h.2.alloc h.2.size tmp).grown hg (by have := h.2.size; simp; omega) (own_ge h.1)⟩

theorem cells_new (w : World) (l : List Value) (t : TypeId) (j : Nat) (u : Value) (h : l[j]? = some u) : (w.alloc (.cells l.toArray t)).cell? ((⟨w.heap.size, 0, none⟩ : Addr).add j) = some u := by
  rw [add_at, World.cell?_alloc_at _ _ _ _ rfl, Nat.zero_add]
  simpa using h

theorem scalar_true (c : Int) (w : World) (h : scal c = true) :
    Calls Try.prog 34 #[.int .i32 c] w fun e w' => e = .returned (.bool true) ∧ w = w' :=
  (scalar_any c w).mono fun _ _ ⟨he, hw⟩ => ⟨by rw [he, h], hw⟩
theorem scalar_false (c : Int) (w : World) (h : scal c = false) :
    Calls Try.prog 34 #[.int .i32 c] w fun e w' => e = .returned (.bool false) ∧ w = w' :=
  (scalar_any c w).mono fun _ _ ⟨he, hw⟩ => ⟨by rw [he, h], hw⟩

def EncPost (l : List Int) (w : World) (e : Ending) (w' : World) : Prop :=
  ∃ t : ByteArray, t.data.toList = enc l ∧ e = .returned (.string t) ∧ Below w.heap.size w w'

theorem convert_bytes {w w' : World} {v : Value} {l : List UInt8} (h : MadeB w w' v l) : (convert 35 9 v).run Try.prog w' = .ok (.string ⟨l.toArray⟩) w' := by
  rcases h.1.2 with ⟨rfl, h0⟩ | ⟨g, cap, cur, rfl, _⟩
  · obtain rfl := List.eq_nil_of_length_eq_zero h0
    rw [run_convert_bytes_string w' _ _ _ _ _ _ Try.underlying35 Try.underlying5 Try.underlying9]
    rfl
  · exact run_convert_bytes_back w' _ _ _ ⟨g, 0, none⟩ cap l Try.underlying35 Try.underlying5 Try.underlying9 (fun j hj => by
      rw [add_at, Nat.zero_add, h.1.cellAt (g := g) j (by omega)]
      simp [cellsOf, hj])

theorem enc_take (l : List Int) (k : Nat) (h : k < l.length) : enc (l.take (k + 1)) = enc (l.take k) ++ enc1 l[k] := by
  unfold enc
  rw [List.take_succ_eq_append_getElem h, List.flatMap_append, List.flatMap_cons, List.flatMap_nil, List.append_nil]

set_option maxHeartbeats 1000000 in
set_option maxRecDepth 100000 in
theorem refEncode_any (A : Option Addr) (l : List Int) (c : Nat) (w : World) (h : Runes w A l) (hl : l.length ≤ 2000) :
    Calls Try.prog 24 #[.slice A l.length c] w (EncPost l w) := by
  obtain ⟨i0, hi, hz0, hz1, hz2⟩ := info_parts Try.infoB
  have HI := Lib.hid (And.intro hi (And.intro hz0 (And.intro hz1 hz2)))
  have HRu := Lib.hid h
  clear hi hz0 hz1 hz2 h
  go_enter Try.func24, Try.ntmps24
  go_wp2
  go_loopw [3, 4] (fun v i wr => ∃ k : Nat, k ≤ l.length ∧ i = .int .i64 k ∧ MadeB w wr v (enc (l.take k))) (fun _ i _ => l.length - (intOf i).toNat)
  case atStart => exact ⟨0, Nat.zero_le _, rfl, World.ownsRow_nil _ _ _ _, Below.refl _ _⟩
  case round =>
    obtain ⟨k, hk, rfl, hm⟩ := hrel
    have HM := Lib.hid hm
    have hlen : (enc (l.take k)).length ≤ 8000 := by have := enc_length (l.take k); simp at this; omega
    by_cases hlt : k < l.length
    · obtain ⟨b, off, rfl, _, hc⟩ := (HRu.out.below hm.2) k l[k] (List.getElem?_eq_getElem hlt)
      have HE := Lib.hid (enc_take l k hlt)
      have hb := hm.2
      clear hm
      obtain ⟨x, hx⟩ : ∃ x, l[k] = x := ⟨_, rfl⟩
      rw [hx] at hc HE
      clear hx
      have hp := enc1_pos x
      obtain ⟨t, ht⟩ : ∃ t, enc (l.take k) = t := ⟨_, rfl⟩
      rw [ht] at HM hlen HE
      clear ht
      by_cases hsc : scal x = true
      · have HS := Lib.hid hsc
        clear hsc
        go_wp2_with (first
          | (go_at_call 34; refine (scalar_true _ _ HS.out).mono ?_; rintro e w' ⟨rfl, rfl⟩)
          | (go_at_call 35; refine (bytes_any _ _ HS.out).mono ?_; rintro e w' ⟨rfl, rfl⟩)
          | (at_builtin
             refine wpList_append_own _ rfl (.tmp 16) (.tmp 21) 35 rfl w.heap.size 5 i0 _ 1 1 Try.underlying35 HI.out.1 HI.out.2.1 HI.out.2.2.1 HI.out.2.2.2 rfl (by decide) _ _ _ rfl (HM.out.1.alloc _) ⟨wr.heap.size, 0, none⟩ (enc1 x).length (enc1 x).length (cellsOf (enc1 x)) rfl (by simp [cellsOf]) (fun j u hu => cells_new _ _ _ j u hu) (cellsOf_one _) ?ha ?hb ?hc ?_
             case ha => simp only [maxLen]; omega
             case hb => omega
             case hc => have := HM.out.2.size; simp; omega
             intro v' w2 hown' hgrow _))
        go_roundw
        case rel => exact ⟨k + 1, by omega, by go_num, by rw [HE.out]; exact HM.out.push hown' hgrow⟩
        case measure => simp [intOf]; omega
      · have HS := Lib.hid (Bool.eq_false_iff.2 hsc)
        clear hsc
        have HB := Lib.hid (enc1_bad x HS.out)
        go_wp2_with (first
          | (go_at_call 34; refine (scalar_false _ _ HS.out).mono ?_; rintro e w' ⟨rfl, rfl⟩)
          | (at_builtin
             refine wpList_append_own _ rfl (.tmp 23) (.tmp 24) 35 rfl w.heap.size 5 i0 _ 1 1 Try.underlying35 HI.out.1 HI.out.2.1 HI.out.2.2.1 HI.out.2.2.2 rfl (by decide) _ _ _ rfl (HM.out.1.alloc _) ⟨wr.heap.size, 0, none⟩ 3 3 (cellsOf [239, 191, 189]) rfl rfl (fun j u hu => cells_new _ (cellsOf [239, 191, 189]) _ j u hu) (cellsOf_one _) ?ha ?hb ?hc ?_
             case ha => simp only [maxLen]; omega
             case hb => omega
             case hc => have := HM.out.2.size; simp; omega
             intro v' w2 hown' hgrow _))
        go_roundw
        case rel => exact ⟨k + 1, by omega, by go_num, by rw [HE.out, HB.out]; exact HM.out.push (t := [239, 191, 189]) hown' hgrow⟩
        case measure => simp [intOf]; omega
    · have HE : Hid (enc (l.take k) = enc l) := by
        show enc (l.take k) = enc l
        rw [List.take_of_length_le (by omega)]
      have hcv := convert_bytes hm
      go_wp2
      go_ret
      exact ⟨_, HE.out, rfl, hm.2⟩
end Go.Proofs.Ytlekbkmcjpnifaa

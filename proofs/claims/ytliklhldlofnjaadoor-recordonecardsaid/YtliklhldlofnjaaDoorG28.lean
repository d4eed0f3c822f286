/-
  In this text, one behind the other: RecGSmall.
-/
import Derived.ArgAppend
import Derived.BigQuiet
import Derived.Deep.AppendLies
import Derived.Deep.Light
import Derived.Deep.LoopGhost
import Derived.Deep.QuietTactic
import Derived.Deep.RegionHeld3
import Derived.Deep.RegionWith
import Derived.Deep.WholeRow
import Derived.IntWalk
import Derived.LaidEql
import Derived.Laws.AppendOwnNone
import Derived.Laws.BitsLemmas
import Derived.Laws.Cover4
import Derived.Laws.Rows
import Derived.Laws.Tables
import Derived.Lib.Bytealg
import Derived.Lib.Hide
import Derived.Lib.SliceRun
import Derived.Maps.AppendAt
import Derived.RowKitTokens
import Derived.Shelf.Strings.Builder1
import Derived.Stop.Asserts
import Derived.WalkKit
import Derived.WalkLawsBesides
import Derived.WalkSpells
import Derived.Test.YtliklhldlofnjaaDoorRows
import Derived.Test.YtliklhldlofnjaaDoorG10
import Derived.Test.YtliklhldlofnjaaDoorG11
import Derived.Test.YtliklhldlofnjaaDoorG27
import Derived.Test.YtliklhldlofnjaaDoorG25
/-
  The program's New, Path and sameLists of layer 12, by their contracts (written by mkrecg.py).
-/
namespace Go.Proofs.YtliklhldlofnjaaDoor
open Go.RowKit
attribute [local go_sem ↓] foldL12 foldS12
attribute [local go_sem] loadU_run viaRow_cells storeU_run viaStore_cells setRow_here12 heap_here12 heap_old12 heap_put12 put12_cells heap_other12 blk_drew12

set_option maxRecDepth 100000 in
theorem new12_pany (s : ByteArray) (w : World) : Calls Tryd.prog 16 #[.string s] w fun e w' => e = .returned (.agg #[.string s, .string ⟨#[]⟩, .string ⟨#[]⟩, .int .i64 0, .string ⟨#[]⟩, .int .u32 0, .int .u16 0, .int .u16 0, .int .u16 0, .int .u16 0, .int .u16 0, .int .u16 0, .int .u16 0, .int .u16 0, .int .i64 (-1), .bool false, .slice none 0 0, .bool false, .string ⟨#[]⟩, .bool false, .string ⟨#[]⟩]) ∧ Below w.heap.size w w' := by
  go_enter Tryd.func16, Tryd.ntmps16
  go_wp2
  refine bodyPost_ret (v := .agg #[.string s, .string ⟨#[]⟩, .string ⟨#[]⟩, .int .i64 0, .string ⟨#[]⟩, .int .u32 0, .int .u16 0, .int .u16 0, .int .u16 0, .int .u16 0, .int .u16 0, .int .u16 0, .int .u16 0, .int .u16 0, .int .i64 (-1), .bool false, .slice none 0 0, .bool false, .string ⟨#[]⟩, .bool false, .string ⟨#[]⟩]) (results_cell_row Tryd.results16 _ _ w.heap.size 29 _ (0, 0) _ rfl (heap_alloc_last _ _) Tryd.underlying29 rfl size12) rfl ?_
  exact ⟨rfl, bel12 _ _⟩
theorem ptext12_is {ps : List Seg} {t : ByteArray} (ht : txt10 (txt11 ps) = t) (A : Option Addr) (n c : Nat) (hn : ps.length = n) (w : World) (h : Segs w A ps) (hw : Wee ps) :
    Calls Tryd.prog 22 #[.slice A n c] w fun e w' => e = .returned (.string t) ∧ Below w.heap.size w w' := ht ▸ text11_pany A ps n c hn w h hw
set_option maxHeartbeats 2000000 in
set_option maxRecDepth 100000 in
theorem path12_pany (u : Url12) (A : Option Addr) (n c : Nat) (hn : u.path.length = n) (w : World) (h : Segs w A u.path) (hw : Wee12 u) :
    Calls Tryd.prog 12 #[.agg #[.string u.scheme, .string u.user, .string u.pass, .int .i64 u.kind, .string u.name, .int .u32 (u.v4 : Int), .int .u16 (u.a0 : Int), .int .u16 (u.a1 : Int), .int .u16 (u.a2 : Int), .int .u16 (u.a3 : Int), .int .u16 (u.a4 : Int), .int .u16 (u.a5 : Int), .int .u16 (u.a6 : Int), .int .u16 (u.a7 : Int), .int .i64 u.port, .bool u.opaq, .slice A n c, .bool u.hasQ, .string u.query, .bool u.hasF, .string u.frag]] w (Txt12 (path12 u) w) := by
  obtain ⟨P, hP⟩ : ∃ P, path12 u = P := ⟨_, rfl⟩
  rw [hP]
  have hlen := hw.len
  cases ho : u.opaq with
  | false =>
    have e : txt10 (txt11 u.path) = txt10 P := by rw [← hP]; unfold path12; rw [ho]; rfl
    have HT := Lib.hid (ptext12_is e A n c hn _ (h.below (bel12 w (.cells #[.string u.scheme, .string u.user, .string u.pass, .int .i64 u.kind, .string u.name, .int .u32 (u.v4 : Int), .int .u16 (u.a0 : Int), .int .u16 (u.a1 : Int), .int .u16 (u.a2 : Int), .int .u16 (u.a3 : Int), .int .u16 (u.a4 : Int), .int .u16 (u.a5 : Int), .int .u16 (u.a6 : Int), .int .u16 (u.a7 : Int), .int .i64 u.port, .bool false, .slice A n c, .bool u.hasQ, .string u.query, .bool u.hasF, .string u.frag] 29))) (wee_path hw))
    clear h hw hP ho e
    go_enter Tryd.func12, Tryd.ntmps12
    go_wp2_with (go_at_call 22; (with_reducible refine (HT.out).mono ?_); rintro e w' ⟨rfl, hb⟩)
    go_ret
    exact ⟨rfl, bn12 (bel12 _ _) hb⟩
  | true =>
    cases hp : u.path with
    | nil =>
      rw [hp] at hn
      obtain rfl : n = 0 := hn.symm
      have HN : Hid (P = []) := by show P = []; rw [← hP]; unfold path12; rw [ho, hp]; rfl
      clear h hw hP ho hp
      go_enter Tryd.func12, Tryd.ntmps12
      go_wp2
      go_ret
      exact ⟨by rw [HN.out]; rfl, bel12 _ _⟩
    | cons p ps =>
      rw [hp] at hn hlen
      have hn1 : n = ps.length + 1 := by rw [← hn]; rfl
      have hl1 : ps.length + 1 ≤ 50 := by simpa using hlen
      have HN : Hid (P = p) := by show P = p; rw [← hP]; unfold path12; rw [ho, hp]; rfl
      rw [hp] at h
      obtain ⟨b, off, rfl, hb, hc⟩ := h.first
      have hc1 := hc _ (bel12 w (.cells #[.string u.scheme, .string u.user, .string u.pass, .int .i64 u.kind, .string u.name, .int .u32 (u.v4 : Int), .int .u16 (u.a0 : Int), .int .u16 (u.a1 : Int), .int .u16 (u.a2 : Int), .int .u16 (u.a3 : Int), .int .u16 (u.a4 : Int), .int .u16 (u.a5 : Int), .int .u16 (u.a6 : Int), .int .u16 (u.a7 : Int), .int .i64 u.port, .bool true, .slice (some ⟨b, off, none⟩) n c, .bool u.hasQ, .string u.query, .bool u.hasF, .string u.frag] 29))
      have hn0 : 0 < n := by omega
      have hz : ((n : Int) == 0) = false := beq_eq_false_iff_ne.2 (by omega)
      have hn50 : n ≤ 50 := by omega
      clear h hw hP ho hp hn hc hlen hn1 hl1
      go_enter Tryd.func12, Tryd.ntmps12
      go_wp2
      go_ret
      exact ⟨by rw [HN.out]; rfl, bel12 _ _⟩

set_option maxHeartbeats 1000000 in
theorem lists12_any (A B : Option Addr) (a b : List ByteArray) (c d : Nat) (w : World) (ha : Strs w A a) (hb : Strs w B b) (hl : a.length ≤ maxLen) :
    Calls Tryd.prog 24 #[.slice A a.length c, .slice B b.length d] w fun e w' => e = .returned (.bool (same11 a b)) ∧ ∃ n, w' = w.drewN n := by
  unfold maxLen at hl
  by_cases hlen : a.length = b.length
  · have hne : ((a.length : Int) != (b.length : Int)) = false := by rw [bne_eq_false_iff_eq]; omega
    have HL := Lib.hid hlen
    clear hlen
    go_enter Tryd.func24, Tryd.ntmps24
    go_wp2
    go_loopw [13] (fun i wr => ∃ k : Nat, k ≤ a.length ∧ i = .int .i64 k ∧ (∃ n, wr = w.drewN n) ∧ a.take k = b.take k) (fun i _ => a.length - (intOf i).toNat)
    case atStart => exact ⟨0, Nat.zero_le _, rfl, ⟨0, rfl⟩, rfl⟩
    case round =>
      obtain ⟨k, hk, rfl, ⟨n, rfl⟩, heq⟩ := hrel
      have HE := Lib.hid heq
      clear heq
      by_cases hlt : k < a.length
      · have hlt' : k < b.length := by have := HL.out; omega
        obtain ⟨ba, offa, rfl, _, hca⟩ := ha k a[k] (List.getElem?_eq_getElem hlt)
        obtain ⟨bb, offb, rfl, _, hcb⟩ := hb k b[k] (List.getElem?_eq_getElem hlt')
        clear ha hb
        by_cases hab : a[k] = b[k]
        · have ht := bytes_same hab
          have HF : Hid (a.take (k + 1) = b.take (k + 1)) := by
            show a.take (k + 1) = b.take (k + 1)
            rw [List.take_succ_eq_append_getElem hlt, List.take_succ_eq_append_getElem hlt', hab, HE.out]
          clear hab
          go_wp2_with fail
          go_quiet (fail)
          go_wp2
          go_roundw
          case rel => exact ⟨k + 1, by omega, by go_num, ⟨_, rfl⟩, HF.out⟩
          case measure => simp [intOf]; omega
        · have ht := bytes_other hab
          have HF := Lib.hid (ne_of_at11 hlt hlt' hab)
          clear hab
          go_wp2_with fail
          go_quiet (fail)
          go_wp2
          go_ret
          exact ⟨by rw [HF.out]; rfl, _, World.drewN_drewN _ _ _⟩
      · have e : k = a.length := by omega
        have HF : Hid (same11 a b = true) := by
          show same11 a b = true
          simp only [same11, decide_eq_true_eq]
          have h1 := HE.out
          rw [List.take_of_length_le (by omega), List.take_of_length_le (by have := HL.out; omega)] at h1
          exact h1
        clear e ha hb
        go_wp2
        go_ret
        exact ⟨by rw [HF.out]; rfl, _, rfl⟩
  · have hne : ((a.length : Int) != (b.length : Int)) = true := by rw [bne_iff_ne]; omega
    have HF := Lib.hid (ne_of_len11 hlen)
    clear hlen ha hb
    go_enter Tryd.func24, Tryd.ntmps24
    go_wp2
    go_ret
    exact ⟨by rw [HF.out]; rfl, 0, rfl⟩
theorem lists12_is {ps qs : List Seg} {b : Bool} (h : decide (ps = qs) = b) {A B : Option Addr} {n m c d : Nat} (hn : ps.length = n) (hm : qs.length = m) (hl : n ≤ 1000) (w : World) (hs : Segs w A ps) (ht : Segs w B qs) : Calls Tryd.prog 24 #[.slice A n c, .slice B m d] w fun e w' => e = .returned (.bool b) ∧ Below w.heap.size w w' := by
  have HC := lists12_any A B (ps.map txt10) (qs.map txt10) c d w hs ht (by rw [List.length_map]; simp only [maxLen]; omega)
  rw [same_segs, h, List.length_map, List.length_map, hn, hm] at HC
  refine HC.mono ?_
  rintro e w' ⟨rfl, k, rfl⟩
  exact ⟨rfl, below_drewN (Below.refl _ w) k⟩
end Go.Proofs.YtliklhldlofnjaaDoor

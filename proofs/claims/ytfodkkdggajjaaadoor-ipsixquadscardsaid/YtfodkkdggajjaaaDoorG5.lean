/-
  In this text, one behind the other: SixParse2, SixFmt.
-/
import Derived.Laws.Bits64b
import Derived.Laws.IdiomStrings
import Derived.Test.YtfodkkdggajjaaaDoorG4
import Derived.Test.YtfodkkdggajjaaaDoorG3
import Derived.Test.YtfodkkdggajjaaaDoorG2
/-
  The program's Parse of layer 8, where the text is an address.
-/
namespace Go.Proofs.YtfodkkdggajjaaaDoor
open Go.RowKit
theorem copy_src {W : World} {g : Nat} {y0 y1 y2 y3 y4 y5 y6 y7 : Nat} (n : Nat) (h : RowU 23 W g [y0, y1, y2, y3, y4, y5, y6, y7]) : ∀ (j : Nat) (v : Value), (([Value.int .u16 (y0 : Int), Value.int .u16 (y1 : Int), Value.int .u16 (y2 : Int), Value.int .u16 (y3 : Int), Value.int .u16 (y4 : Int), Value.int .u16 (y5 : Int), Value.int .u16 (y6 : Int), Value.int .u16 (y7 : Int)] : List Value).take n)[j]? = some v → W.cell? ((⟨g, 0, none⟩ : Addr).add j) = some v := by
  intro j v hv
  have hj : ([Value.int .u16 (y0 : Int), Value.int .u16 (y1 : Int), Value.int .u16 (y2 : Int), Value.int .u16 (y3 : Int), Value.int .u16 (y4 : Int), Value.int .u16 (y5 : Int), Value.int .u16 (y6 : Int), Value.int .u16 (y7 : Int)] : List Value)[j]? = some v := by
    rw [List.getElem?_take] at hv
    split at hv
    · exact hv
    · cases hv
  have h2 : ([Value.int .u16 (y0 : Int), Value.int .u16 (y1 : Int), Value.int .u16 (y2 : Int), Value.int .u16 (y3 : Int), Value.int .u16 (y4 : Int), Value.int .u16 (y5 : Int), Value.int .u16 (y6 : Int), Value.int .u16 (y7 : Int)] : List Value) = ([y0, y1, y2, y3, y4, y5, y6, y7] : List Nat).map fun n : Nat => Value.int .u16 (n : Int) := rfl
  rw [h2, List.getElem?_map] at hj
  cases hx : ([y0, y1, y2, y3, y4, y5, y6, y7] : List Nat)[j]? with
  | none => rw [hx] at hj; cases hj
  | some x =>
    rw [hx] at hj
    cases hj
    have := (h.at hx).1
    rw [← this]
    simp only [Addr.add]
    split
    · rename_i h0; rw [h0]
    · rw [Nat.zero_add]
theorem fill_eq {a b : List Nat} (h : a.length + b.length < 8) : fill8 a b = (padN 8 a).take (8 - b.length) ++ (padN 8 b).take b.length := by
  unfold fill8 padN
  rw [List.take_append, List.take_of_length_le (show a.length ≤ 8 - b.length by omega), List.take_replicate, show min (8 - b.length - a.length) (8 - a.length) = 8 - a.length - b.length by omega, List.take_left]
theorem RowU.heap {t : TypeId} {W W' : World} {g : Nat} {c : List Nat} (h : RowU t W g c) (hh : W'.heap = W.heap) : RowU t W' g c := by
  unfold RowU
  rw [hh]
  exact h

set_option maxHeartbeats 4000000 in
set_option maxRecDepth 100000 in
theorem parse_g1 (s : ByteArray) (hs : s.size ≤ 10000) (w : World) (hv : V8 w) (k : Nat) (hc : colons8 s.data.toList = some k) (a b : List Nat) (h1 : side8 (s.data.toList.take k) false = some a) (h2 : side8 (s.data.toList.drop (k + 2)) true = some b) (hn : a.length + b.length < 8) (h0 : b.length = 1) : Calls Tryd.prog 10 #[.string s] w (SixPost (some (fill8 a b)) w) := by
  obtain ⟨hs1, hs2⟩ := sides_size s k hs
  have HCut := Lib.hid (fun w hv => pair_yes hc hs w hv)
  have ha8 := (side8_len h1).1
  have hb8 := (side8_len h2).1
  obtain ⟨x0, x1, x2, x3, x4, x5, x6, x7, hp⟩ := eight_of8 (padN_len ha8)
  obtain ⟨y0, y1, y2, y3, y4, y5, y6, y7, hq⟩ := eight_of8 (padN_len hb8)
  have HRd1 := Lib.hid (fun w hv => read_ok (s := btx (s.data.toList.take k)) h1 hp hs1 w hv)
  have HRd2 := Lib.hid (fun w hv => read_ok (s := btx (s.data.toList.drop (k + 2))) h2 hq hs2 w hv)
  generalize btx (s.data.toList.take k) = p at hs1 HCut HRd1
  generalize btx (s.data.toList.drop (k + 2)) = q at hs2 HCut HRd2
  have HPp := Lib.hid hp
  have HQq := Lib.hid hq
  have HFit : Hid (∀ w, Calls Tryd.prog 19 #[.int .i64 ((a.length : Int) + 1), .bool true] w fun e w' => e = .returned (.bool true) ∧ w = w') := fits_any (a.length + 1) true true (by rw [h0] at hn; simp [hn])
  clear hc h1 h2 hp hq hs1 hs2
  have HR0 : Hid (RowU 23 (w.alloc (.cells #[.int .u16 0, .int .u16 0, .int .u16 0, .int .u16 0, .int .u16 0, .int .u16 0, .int .u16 0, .int .u16 0] 23)) w.heap.size zero8) := by
    show RowU _ _ _ _
    exact RowU.new 23 w zero8
  have HB0 : Hid (Below w.heap.size w (w.alloc (.cells #[.int .u16 0, .int .u16 0, .int .u16 0, .int .u16 0, .int .u16 0, .int .u16 0, .int .u16 0, .int .u16 0] 23))) := bel8 _ _
  have HV0 : Hid (V8 (w.alloc (.cells #[.int .u16 0, .int .u16 0, .int .u16 0, .int .u16 0, .int .u16 0, .int .u16 0, .int .u16 0, .int .u16 0] 23))) := hv.below (bel8 _ _)
  clear hv
  go_enter Tryd.func10, Tryd.ntmps10
  go_wp2_with (first
    | (go_at_call 17; (with_reducible refine (HCut.out _ HV0.out).mono ?_); rintro e w1 ⟨rfl, hb⟩; have HB1 := Lib.hid (bnx8 HB0.out hb); have HV1 := Lib.hid (HV0.out.below hb); have HR1 := Lib.hid (HR0.out.below hb); clear hb)
    | (go_at_call 18; (with_reducible refine (HRd2.out _ HV2b.out).mono ?_); rintro e w3 ⟨rfl, hb⟩; have HB3 := Lib.hid (bnx8 HB2b.out hb); have HR3 := Lib.hid (HR2b.out.below hb); have HA3 := Lib.hid (HA2.out.below hb); have HB3b := Lib.hid (bal8 HB3.out (.cells #[.int .u16 (y0 : Int), .int .u16 (y1 : Int), .int .u16 (y2 : Int), .int .u16 (y3 : Int), .int .u16 (y4 : Int), .int .u16 (y5 : Int), .int .u16 (y6 : Int), .int .u16 (y7 : Int)] 23)); have HR3b := Lib.hid (HR3.out.below (bel8 (.cells #[.int .u16 (y0 : Int), .int .u16 (y1 : Int), .int .u16 (y2 : Int), .int .u16 (y3 : Int), .int .u16 (y4 : Int), .int .u16 (y5 : Int), .int .u16 (y6 : Int), .int .u16 (y7 : Int)] 23) w3)); have HA3b := Lib.hid (HA3.out.below (bel8 (.cells #[.int .u16 (y0 : Int), .int .u16 (y1 : Int), .int .u16 (y2 : Int), .int .u16 (y3 : Int), .int .u16 (y4 : Int), .int .u16 (y5 : Int), .int .u16 (y6 : Int), .int .u16 (y7 : Int)] 23) w3)); have HC3 := Lib.hid (RowU.new 23 w3 [y0, y1, y2, y3, y4, y5, y6, y7]); clear hb)
    | (go_at_call 18; (with_reducible refine (HRd1.out _ HV1.out).mono ?_); rintro e w2 ⟨rfl, hb⟩; have HB2 := Lib.hid (bnx8 HB1.out hb); have HV2 := Lib.hid (HV1.out.below hb); have HR2 := Lib.hid (HR1.out.below hb); have HB2b := Lib.hid (bal8 HB2.out (.cells #[.int .u16 (x0 : Int), .int .u16 (x1 : Int), .int .u16 (x2 : Int), .int .u16 (x3 : Int), .int .u16 (x4 : Int), .int .u16 (x5 : Int), .int .u16 (x6 : Int), .int .u16 (x7 : Int)] 23)); have HV2b := Lib.hid (HV2.out.below (bel8 (.cells #[.int .u16 (x0 : Int), .int .u16 (x1 : Int), .int .u16 (x2 : Int), .int .u16 (x3 : Int), .int .u16 (x4 : Int), .int .u16 (x5 : Int), .int .u16 (x6 : Int), .int .u16 (x7 : Int)] 23) w2)); have HR2b := Lib.hid (HR2.out.below (bel8 (.cells #[.int .u16 (x0 : Int), .int .u16 (x1 : Int), .int .u16 (x2 : Int), .int .u16 (x3 : Int), .int .u16 (x4 : Int), .int .u16 (x5 : Int), .int .u16 (x6 : Int), .int .u16 (x7 : Int)] 23) w2)); have HA2 := Lib.hid (RowU.new 23 w2 [x0, x1, x2, x3, x4, x5, x6, x7]); clear hb)
    | (go_at_call 19; (with_reducible refine (HFit.out _).mono ?_); rintro e w9 ⟨rfl, rfl⟩))
  have HC3 : Hid (RowU 23 (w3.alloc (.cells #[.int .u16 (y0 : Int), .int .u16 (y1 : Int), .int .u16 (y2 : Int), .int .u16 (y3 : Int), .int .u16 (y4 : Int), .int .u16 (y5 : Int), .int .u16 (y6 : Int), .int .u16 (y7 : Int)] 23)) w3.heap.size [y0, y1, y2, y3, y4, y5, y6, y7]) := HC3
  have hsz3 : (w3.alloc (.cells #[.int .u16 (y0 : Int), .int .u16 (y1 : Int), .int .u16 (y2 : Int), .int .u16 (y3 : Int), .int .u16 (y4 : Int), .int .u16 (y5 : Int), .int .u16 (y6 : Int), .int .u16 (y7 : Int)] 23)).heap.size = w3.heap.size + 1 := by simp
  have hg01 : w.heap.size < w2.heap.size := HR2.out.lt
  have hg12 : w2.heap.size < w3.heap.size := HA3.out.lt
  clear HB0 HV0 HR0 HB1 HV1 HR1 HB2 HV2 HR2 HB2b HV2b HR2b HA2 HB3 HR3 HA3 HCut HRd1 HRd2 HFit
  obtain ⟨W, hW⟩ : ∃ W, w3.alloc (.cells #[.int .u16 (y0 : Int), .int .u16 (y1 : Int), .int .u16 (y2 : Int), .int .u16 (y3 : Int), .int .u16 (y4 : Int), .int .u16 (y5 : Int), .int .u16 (y6 : Int), .int .u16 (y7 : Int)] 23) = W := ⟨_, rfl⟩
  rw [hW] at HC3 HB3b HR3b HA3b hsz3 ⊢
  obtain ⟨g1, hg1⟩ : ∃ g1, w2.heap.size = g1 := ⟨_, rfl⟩
  obtain ⟨g2, hg2⟩ : ∃ g2, w3.heap.size = g2 := ⟨_, rfl⟩
  obtain ⟨g0, hg0⟩ : ∃ g0, w.heap.size = g0 := ⟨_, rfl⟩
  have HG0 := Lib.hid hg0
  rw [hg1] at HA3b hg01 hg12 ⊢
  rw [hg2] at HC3 hg12 hsz3 ⊢
  rw [hg0] at HR3b hg01 ⊢
  clear hW hg0 hg1 hg2
  have hcp : ∀ (ty : TypeId) (W' : World), W'.heap = W.heap → (Builtin.copy_ #[42, 42] ty #[.slice (some ⟨g1, 7, none⟩) 1 1, .slice (some ⟨g2, 0, none⟩) 1 8]).run Tryd.prog W' = .ok (.int .i64 1) (W'.setRow g1 #[.int .u16 (x0 : Int), .int .u16 (x1 : Int), .int .u16 (x2 : Int), .int .u16 (x3 : Int), .int .u16 (x4 : Int), .int .u16 (x5 : Int), .int .u16 (x6 : Int), .int .u16 (y0 : Int)]) := by
    intro ty W' hh
    have hsrc := run_copy_row (P := Tryd.prog) W' 42 42 ty 22 g1 7 1 1 ⟨g2, 0, none⟩ 1 8 #[.int .u16 (x0 : Int), .int .u16 (x1 : Int), .int .u16 (x2 : Int), .int .u16 (x3 : Int), .int .u16 (x4 : Int), .int .u16 (x5 : Int), .int .u16 (x6 : Int), .int .u16 (x7 : Int)] 23 [.int .u16 (y0 : Int)] Tryd.underlying42 (by kernel_rfl) (HA3b.out.heap hh) rfl (copy_src 1 (HC3.out.heap hh)) (by simp) (by simp [Value.oneCell'])
    exact hsrc
  clear HC3
  have hwr : IntKind.i64.wrap 7 = 7 := by decide
  have hcd := hcp 3 W.drew rfl
  have HGl : Hid (w.heap.size ≤ g0) := Lib.hid (Nat.le_of_eq HG0.out)
  have HR5 : Hid (RowU 23 (W.drew.setRow g1 #[.int .u16 (x0 : Int), .int .u16 (x1 : Int), .int .u16 (x2 : Int), .int .u16 (x3 : Int), .int .u16 (x4 : Int), .int .u16 (x5 : Int), .int .u16 (x6 : Int), .int .u16 (y0 : Int)]) g0 zero8) := by
    show RowU _ _ _ _
    exact (setRow_other _ _ _ _ (by omega)).trans HR3b.out
  have HA5 : Hid (RowU 23 (W.drew.setRow g1 #[.int .u16 (x0 : Int), .int .u16 (x1 : Int), .int .u16 (x2 : Int), .int .u16 (x3 : Int), .int .u16 (x4 : Int), .int .u16 (x5 : Int), .int .u16 (x6 : Int), .int .u16 (y0 : Int)]) g1 [x0, x1, x2, x3, x4, x5, x6, y0]) := by
    show RowU _ _ _ _
    exact setRow_heap _ _ _ _ _ _ (HA3b.out)
  have HB5 : Hid (Below w.heap.size w (W.drew.setRow g1 #[.int .u16 (x0 : Int), .int .u16 (x1 : Int), .int .u16 (x2 : Int), .int .u16 (x3 : Int), .int .u16 (x4 : Int), .int .u16 (x5 : Int), .int .u16 (x6 : Int), .int .u16 (y0 : Int)])) := by
    show Below _ _ _
    exact below_setRow HB3b.out.drew (by have := HG0.out; omega) _
  have HF : Hid (fill8 a b = [x0, x1, x2, x3, x4, x5, x6, y0]) := by
    show fill8 a b = _
    have h := fill_eq (a := a) (b := b) hn
    rw [HPp.out, HQq.out, h0] at h
    exact h
  clear hcp hn
  go_region
  generalize (W.drew.setRow g1 #[.int .u16 (x0 : Int), .int .u16 (x1 : Int), .int .u16 (x2 : Int), .int .u16 (x3 : Int), .int .u16 (x4 : Int), .int .u16 (x5 : Int), .int .u16 (x6 : Int), .int .u16 (y0 : Int)]) = W5 at HR5 HA5 HB5 ⊢
  obtain ⟨pc0, pc1, pc2, pc3, pc4, pc5, pc6, pc7, pf0, pf1, pf2, pf3, pf4, pf5, pf6, pf7⟩ := rows8 HA5.out
  obtain ⟨rc0, rc1, rc2, rc3, rc4, rc5, rc6, rc7, rf0, rf1, rf2, rf3, rf4, rf5, rf6, rf7⟩ := rows8 HR5.out
  have hgl5 := HR5.out.lt
  have hgl6 := HA5.out.lt
  go_wp2
  refine bodyPost_ret (parse_res (put8_rows HR5.out rfl x0 x1 x2 x3 x4 x5 x6 y0) _ .nilIface rfl rfl) rfl ?_
  refine ⟨?_, below_put8 HGl.out HB5.out _ _ _ _ _ _ _ _⟩
  rw [HF.out]
  rfl


set_option maxHeartbeats 4000000 in
set_option maxRecDepth 100000 in
theorem parse_g2 (s : ByteArray) (hs : s.size ≤ 10000) (w : World) (hv : V8 w) (k : Nat) (hc : colons8 s.data.toList = some k) (a b : List Nat) (h1 : side8 (s.data.toList.take k) false = some a) (h2 : side8 (s.data.toList.drop (k + 2)) true = some b) (hn : a.length + b.length < 8) (h0 : b.length = 2) : Calls Tryd.prog 10 #[.string s] w (SixPost (some (fill8 a b)) w) := by
  obtain ⟨hs1, hs2⟩ := sides_size s k hs
  have HCut := Lib.hid (fun w hv => pair_yes hc hs w hv)
  have ha8 := (side8_len h1).1
  have hb8 := (side8_len h2).1
  obtain ⟨x0, x1, x2, x3, x4, x5, x6, x7, hp⟩ := eight_of8 (padN_len ha8)
  obtain ⟨y0, y1, y2, y3, y4, y5, y6, y7, hq⟩ := eight_of8 (padN_len hb8)
  have HRd1 := Lib.hid (fun w hv => read_ok (s := btx (s.data.toList.take k)) h1 hp hs1 w hv)
  have HRd2 := Lib.hid (fun w hv => read_ok (s := btx (s.data.toList.drop (k + 2))) h2 hq hs2 w hv)
  generalize btx (s.data.toList.take k) = p at hs1 HCut HRd1
  generalize btx (s.data.toList.drop (k + 2)) = q at hs2 HCut HRd2
  have HPp := Lib.hid hp
  have HQq := Lib.hid hq
  have HFit : Hid (∀ w, Calls Tryd.prog 19 #[.int .i64 ((a.length : Int) + 2), .bool true] w fun e w' => e = .returned (.bool true) ∧ w = w') := fits_any (a.length + 2) true true (by rw [h0] at hn; simp [hn])
  clear hc h1 h2 hp hq hs1 hs2
  have HR0 : Hid (RowU 23 (w.alloc (.cells #[.int .u16 0, .int .u16 0, .int .u16 0, .int .u16 0, .int .u16 0, .int .u16 0, .int .u16 0, .int .u16 0] 23)) w.heap.size zero8) := by
    show RowU _ _ _ _
    exact RowU.new 23 w zero8
  have HB0 : Hid (Below w.heap.size w (w.alloc (.cells #[.int .u16 0, .int .u16 0, .int .u16 0, .int .u16 0, .int .u16 0, .int .u16 0, .int .u16 0, .int .u16 0] 23))) := bel8 _ _
  have HV0 : Hid (V8 (w.alloc (.cells #[.int .u16 0, .int .u16 0, .int .u16 0, .int .u16 0, .int .u16 0, .int .u16 0, .int .u16 0, .int .u16 0] 23))) := hv.below (bel8 _ _)
  clear hv
  go_enter Tryd.func10, Tryd.ntmps10
  go_wp2_with (first
    | (go_at_call 17; (with_reducible refine (HCut.out _ HV0.out).mono ?_); rintro e w1 ⟨rfl, hb⟩; have HB1 := Lib.hid (bnx8 HB0.out hb); have HV1 := Lib.hid (HV0.out.below hb); have HR1 := Lib.hid (HR0.out.below hb); clear hb)
    | (go_at_call 18; (with_reducible refine (HRd2.out _ HV2b.out).mono ?_); rintro e w3 ⟨rfl, hb⟩; have HB3 := Lib.hid (bnx8 HB2b.out hb); have HR3 := Lib.hid (HR2b.out.below hb); have HA3 := Lib.hid (HA2.out.below hb); have HB3b := Lib.hid (bal8 HB3.out (.cells #[.int .u16 (y0 : Int), .int .u16 (y1 : Int), .int .u16 (y2 : Int), .int .u16 (y3 : Int), .int .u16 (y4 : Int), .int .u16 (y5 : Int), .int .u16 (y6 : Int), .int .u16 (y7 : Int)] 23)); have HR3b := Lib.hid (HR3.out.below (bel8 (.cells #[.int .u16 (y0 : Int), .int .u16 (y1 : Int), .int .u16 (y2 : Int), .int .u16 (y3 : Int), .int .u16 (y4 : Int), .int .u16 (y5 : Int), .int .u16 (y6 : Int), .int .u16 (y7 : Int)] 23) w3)); have HA3b := Lib.hid (HA3.out.below (bel8 (.cells #[.int .u16 (y0 : Int), .int .u16 (y1 : Int), .int .u16 (y2 : Int), .int .u16 (y3 : Int), .int .u16 (y4 : Int), .int .u16 (y5 : Int), .int .u16 (y6 : Int), .int .u16 (y7 : Int)] 23) w3)); have HC3 := Lib.hid (RowU.new 23 w3 [y0, y1, y2, y3, y4, y5, y6, y7]); clear hb)
    | (go_at_call 18; (with_reducible refine (HRd1.out _ HV1.out).mono ?_); rintro e w2 ⟨rfl, hb⟩; have HB2 := Lib.hid (bnx8 HB1.out hb); have HV2 := Lib.hid (HV1.out.below hb); have HR2 := Lib.hid (HR1.out.below hb); have HB2b := Lib.hid (bal8 HB2.out (.cells #[.int .u16 (x0 : Int), .int .u16 (x1 : Int), .int .u16 (x2 : Int), .int .u16 (x3 : Int), .int .u16 (x4 : Int), .int .u16 (x5 : Int), .int .u16 (x6 : Int), .int .u16 (x7 : Int)] 23)); have HV2b := Lib.hid (HV2.out.below (bel8 (.cells #[.int .u16 (x0 : Int), .int .u16 (x1 : Int), .int .u16 (x2 : Int), .int .u16 (x3 : Int), .int .u16 (x4 : Int), .int .u16 (x5 : Int), .int .u16 (x6 : Int), .int .u16 (x7 : Int)] 23) w2)); have HR2b := Lib.hid (HR2.out.below (bel8 (.cells #[.int .u16 (x0 : Int), .int .u16 (x1 : Int), .int .u16 (x2 : Int), .int .u16 (x3 : Int), .int .u16 (x4 : Int), .int .u16 (x5 : Int), .int .u16 (x6 : Int), .int .u16 (x7 : Int)] 23) w2)); have HA2 := Lib.hid (RowU.new 23 w2 [x0, x1, x2, x3, x4, x5, x6, x7]); clear hb)
    | (go_at_call 19; (with_reducible refine (HFit.out _).mono ?_); rintro e w9 ⟨rfl, rfl⟩))
  have HC3 : Hid (RowU 23 (w3.alloc (.cells #[.int .u16 (y0 : Int), .int .u16 (y1 : Int), .int .u16 (y2 : Int), .int .u16 (y3 : Int), .int .u16 (y4 : Int), .int .u16 (y5 : Int), .int .u16 (y6 : Int), .int .u16 (y7 : Int)] 23)) w3.heap.size [y0, y1, y2, y3, y4, y5, y6, y7]) := HC3
  have hsz3 : (w3.alloc (.cells #[.int .u16 (y0 : Int), .int .u16 (y1 : Int), .int .u16 (y2 : Int), .int .u16 (y3 : Int), .int .u16 (y4 : Int), .int .u16 (y5 : Int), .int .u16 (y6 : Int), .int .u16 (y7 : Int)] 23)).heap.size = w3.heap.size + 1 := by simp
  have hg01 : w.heap.size < w2.heap.size := HR2.out.lt
  have hg12 : w2.heap.size < w3.heap.size := HA3.out.lt
  clear HB0 HV0 HR0 HB1 HV1 HR1 HB2 HV2 HR2 HB2b HV2b HR2b HA2 HB3 HR3 HA3 HCut HRd1 HRd2 HFit
  obtain ⟨W, hW⟩ : ∃ W, w3.alloc (.cells #[.int .u16 (y0 : Int), .int .u16 (y1 : Int), .int .u16 (y2 : Int), .int .u16 (y3 : Int), .int .u16 (y4 : Int), .int .u16 (y5 : Int), .int .u16 (y6 : Int), .int .u16 (y7 : Int)] 23) = W := ⟨_, rfl⟩
  rw [hW] at HC3 HB3b HR3b HA3b hsz3 ⊢
  obtain ⟨g1, hg1⟩ : ∃ g1, w2.heap.size = g1 := ⟨_, rfl⟩
  obtain ⟨g2, hg2⟩ : ∃ g2, w3.heap.size = g2 := ⟨_, rfl⟩
  obtain ⟨g0, hg0⟩ : ∃ g0, w.heap.size = g0 := ⟨_, rfl⟩
  have HG0 := Lib.hid hg0
  rw [hg1] at HA3b hg01 hg12 ⊢
  rw [hg2] at HC3 hg12 hsz3 ⊢
  rw [hg0] at HR3b hg01 ⊢
  clear hW hg0 hg1 hg2
  have hcp : ∀ (ty : TypeId) (W' : World), W'.heap = W.heap → (Builtin.copy_ #[42, 42] ty #[.slice (some ⟨g1, 6, none⟩) 2 2, .slice (some ⟨g2, 0, none⟩) 2 8]).run Tryd.prog W' = .ok (.int .i64 2) (W'.setRow g1 #[.int .u16 (x0 : Int), .int .u16 (x1 : Int), .int .u16 (x2 : Int), .int .u16 (x3 : Int), .int .u16 (x4 : Int), .int .u16 (x5 : Int), .int .u16 (y0 : Int), .int .u16 (y1 : Int)]) := by
    intro ty W' hh
    have hsrc := run_copy_row (P := Tryd.prog) W' 42 42 ty 22 g1 6 2 2 ⟨g2, 0, none⟩ 2 8 #[.int .u16 (x0 : Int), .int .u16 (x1 : Int), .int .u16 (x2 : Int), .int .u16 (x3 : Int), .int .u16 (x4 : Int), .int .u16 (x5 : Int), .int .u16 (x6 : Int), .int .u16 (x7 : Int)] 23 [.int .u16 (y0 : Int), .int .u16 (y1 : Int)] Tryd.underlying42 (by kernel_rfl) (HA3b.out.heap hh) rfl (copy_src 2 (HC3.out.heap hh)) (by simp) (by simp [Value.oneCell'])
    exact hsrc
  clear HC3
  have hwr : IntKind.i64.wrap 6 = 6 := by decide
  have hcd := hcp 3 W.drew rfl
  have HGl : Hid (w.heap.size ≤ g0) := Lib.hid (Nat.le_of_eq HG0.out)
  have HR5 : Hid (RowU 23 (W.drew.setRow g1 #[.int .u16 (x0 : Int), .int .u16 (x1 : Int), .int .u16 (x2 : Int), .int .u16 (x3 : Int), .int .u16 (x4 : Int), .int .u16 (x5 : Int), .int .u16 (y0 : Int), .int .u16 (y1 : Int)]) g0 zero8) := by
    show RowU _ _ _ _
    exact (setRow_other _ _ _ _ (by omega)).trans HR3b.out
  have HA5 : Hid (RowU 23 (W.drew.setRow g1 #[.int .u16 (x0 : Int), .int .u16 (x1 : Int), .int .u16 (x2 : Int), .int .u16 (x3 : Int), .int .u16 (x4 : Int), .int .u16 (x5 : Int), .int .u16 (y0 : Int), .int .u16 (y1 : Int)]) g1 [x0, x1, x2, x3, x4, x5, y0, y1]) := by
    show RowU _ _ _ _
    exact setRow_heap _ _ _ _ _ _ (HA3b.out)
  have HB5 : Hid (Below w.heap.size w (W.drew.setRow g1 #[.int .u16 (x0 : Int), .int .u16 (x1 : Int), .int .u16 (x2 : Int), .int .u16 (x3 : Int), .int .u16 (x4 : Int), .int .u16 (x5 : Int), .int .u16 (y0 : Int), .int .u16 (y1 : Int)])) := by
    show Below _ _ _
    exact below_setRow HB3b.out.drew (by have := HG0.out; omega) _
  have HF : Hid (fill8 a b = [x0, x1, x2, x3, x4, x5, y0, y1]) := by
    show fill8 a b = _
    have h := fill_eq (a := a) (b := b) hn
    rw [HPp.out, HQq.out, h0] at h
    exact h
  clear hcp hn
  go_region
  generalize (W.drew.setRow g1 #[.int .u16 (x0 : Int), .int .u16 (x1 : Int), .int .u16 (x2 : Int), .int .u16 (x3 : Int), .int .u16 (x4 : Int), .int .u16 (x5 : Int), .int .u16 (y0 : Int), .int .u16 (y1 : Int)]) = W5 at HR5 HA5 HB5 ⊢
  obtain ⟨pc0, pc1, pc2, pc3, pc4, pc5, pc6, pc7, pf0, pf1, pf2, pf3, pf4, pf5, pf6, pf7⟩ := rows8 HA5.out
  obtain ⟨rc0, rc1, rc2, rc3, rc4, rc5, rc6, rc7, rf0, rf1, rf2, rf3, rf4, rf5, rf6, rf7⟩ := rows8 HR5.out
  have hgl5 := HR5.out.lt
  have hgl6 := HA5.out.lt
  go_wp2
  refine bodyPost_ret (parse_res (put8_rows HR5.out rfl x0 x1 x2 x3 x4 x5 y0 y1) _ .nilIface rfl rfl) rfl ?_
  refine ⟨?_, below_put8 HGl.out HB5.out _ _ _ _ _ _ _ _⟩
  rw [HF.out]
  rfl


set_option maxHeartbeats 4000000 in
set_option maxRecDepth 100000 in
theorem parse_g3 (s : ByteArray) (hs : s.size ≤ 10000) (w : World) (hv : V8 w) (k : Nat) (hc : colons8 s.data.toList = some k) (a b : List Nat) (h1 : side8 (s.data.toList.take k) false = some a) (h2 : side8 (s.data.toList.drop (k + 2)) true = some b) (hn : a.length + b.length < 8) (h0 : b.length = 3) : Calls Tryd.prog 10 #[.string s] w (SixPost (some (fill8 a b)) w) := by
  obtain ⟨hs1, hs2⟩ := sides_size s k hs
  have HCut := Lib.hid (fun w hv => pair_yes hc hs w hv)
  have ha8 := (side8_len h1).1
  have hb8 := (side8_len h2).1
  obtain ⟨x0, x1, x2, x3, x4, x5, x6, x7, hp⟩ := eight_of8 (padN_len ha8)
  obtain ⟨y0, y1, y2, y3, y4, y5, y6, y7, hq⟩ := eight_of8 (padN_len hb8)
  have HRd1 := Lib.hid (fun w hv => read_ok (s := btx (s.data.toList.take k)) h1 hp hs1 w hv)
  have HRd2 := Lib.hid (fun w hv => read_ok (s := btx (s.data.toList.drop (k + 2))) h2 hq hs2 w hv)
  generalize btx (s.data.toList.take k) = p at hs1 HCut HRd1
  generalize btx (s.data.toList.drop (k + 2)) = q at hs2 HCut HRd2
  have HPp := Lib.hid hp
  have HQq := Lib.hid hq
  have HFit : Hid (∀ w, Calls Tryd.prog 19 #[.int .i64 ((a.length : Int) + 3), .bool true] w fun e w' => e = .returned (.bool true) ∧ w = w') := fits_any (a.length + 3) true true (by rw [h0] at hn; simp [hn])
  clear hc h1 h2 hp hq hs1 hs2
  have HR0 : Hid (RowU 23 (w.alloc (.cells #[.int .u16 0, .int .u16 0, .int .u16 0, .int .u16 0, .int .u16 0, .int .u16 0, .int .u16 0, .int .u16 0] 23)) w.heap.size zero8) := by
    show RowU _ _ _ _
    exact RowU.new 23 w zero8
  have HB0 : Hid (Below w.heap.size w (w.alloc (.cells #[.int .u16 0, .int .u16 0, .int .u16 0, .int .u16 0, .int .u16 0, .int .u16 0, .int .u16 0, .int .u16 0] 23))) := bel8 _ _
  have HV0 : Hid (V8 (w.alloc (.cells #[.int .u16 0, .int .u16 0, .int .u16 0, .int .u16 0, .int .u16 0, .int .u16 0, .int .u16 0, .int .u16 0] 23))) := hv.below (bel8 _ _)
  clear hv
  go_enter Tryd.func10, Tryd.ntmps10
  go_wp2_with (first
    | (go_at_call 17; (with_reducible refine (HCut.out _ HV0.out).mono ?_); rintro e w1 ⟨rfl, hb⟩; have HB1 := Lib.hid (bnx8 HB0.out hb); have HV1 := Lib.hid (HV0.out.below hb); have HR1 := Lib.hid (HR0.out.below hb); clear hb)
    | (go_at_call 18; (with_reducible refine (HRd2.out _ HV2b.out).mono ?_); rintro e w3 ⟨rfl, hb⟩; have HB3 := Lib.hid (bnx8 HB2b.out hb); have HR3 := Lib.hid (HR2b.out.below hb); have HA3 := Lib.hid (HA2.out.below hb); have HB3b := Lib.hid (bal8 HB3.out (.cells #[.int .u16 (y0 : Int), .int .u16 (y1 : Int), .int .u16 (y2 : Int), .int .u16 (y3 : Int), .int .u16 (y4 : Int), .int .u16 (y5 : Int), .int .u16 (y6 : Int), .int .u16 (y7 : Int)] 23)); have HR3b := Lib.hid (HR3.out.below (bel8 (.cells #[.int .u16 (y0 : Int), .int .u16 (y1 : Int), .int .u16 (y2 : Int), .int .u16 (y3 : Int), .int .u16 (y4 : Int), .int .u16 (y5 : Int), .int .u16 (y6 : Int), .int .u16 (y7 : Int)] 23) w3)); have HA3b := Lib.hid (HA3.out.below (bel8 (.cells #[.int .u16 (y0 : Int), .int .u16 (y1 : Int), .int .u16 (y2 : Int), .int .u16 (y3 : Int), .int .u16 (y4 : Int), .int .u16 (y5 : Int), .int .u16 (y6 : Int), .int .u16 (y7 : Int)] 23) w3)); have HC3 := Lib.hid (RowU.new 23 w3 [y0, y1, y2, y3, y4, y5, y6, y7]); clear hb)
    | (go_at_call 18; (with_reducible refine (HRd1.out _ HV1.out).mono ?_); rintro e w2 ⟨rfl, hb⟩; have HB2 := Lib.hid (bnx8 HB1.out hb); have HV2 := Lib.hid (HV1.out.below hb); have HR2 := Lib.hid (HR1.out.below hb); have HB2b := Lib.hid (bal8 HB2.out (.cells #[.int .u16 (x0 : Int), .int .u16 (x1 : Int), .int .u16 (x2 : Int), .int .u16 (x3 : Int), .int .u16 (x4 : Int), .int .u16 (x5 : Int), .int .u16 (x6 : Int), .int .u16 (x7 : Int)] 23)); have HV2b := Lib.hid (HV2.out.below (bel8 (.cells #[.int .u16 (x0 : Int), .int .u16 (x1 : Int), .int .u16 (x2 : Int), .int .u16 (x3 : Int), .int .u16 (x4 : Int), .int .u16 (x5 : Int), .int .u16 (x6 : Int), .int .u16 (x7 : Int)] 23) w2)); have HR2b := Lib.hid (HR2.out.below (bel8 (.cells #[.int .u16 (x0 : Int), .int .u16 (x1 : Int), .int .u16 (x2 : Int), .int .u16 (x3 : Int), .int .u16 (x4 : Int), .int .u16 (x5 : Int), .int .u16 (x6 : Int), .int .u16 (x7 : Int)] 23) w2)); have HA2 := Lib.hid (RowU.new 23 w2 [x0, x1, x2, x3, x4, x5, x6, x7]); clear hb)
    | (go_at_call 19; (with_reducible refine (HFit.out _).mono ?_); rintro e w9 ⟨rfl, rfl⟩))
  have HC3 : Hid (RowU 23 (w3.alloc (.cells #[.int .u16 (y0 : Int), .int .u16 (y1 : Int), .int .u16 (y2 : Int), .int .u16 (y3 : Int), .int .u16 (y4 : Int), .int .u16 (y5 : Int), .int .u16 (y6 : Int), .int .u16 (y7 : Int)] 23)) w3.heap.size [y0, y1, y2, y3, y4, y5, y6, y7]) := HC3
  have hsz3 : (w3.alloc (.cells #[.int .u16 (y0 : Int), .int .u16 (y1 : Int), .int .u16 (y2 : Int), .int .u16 (y3 : Int), .int .u16 (y4 : Int), .int .u16 (y5 : Int), .int .u16 (y6 : Int), .int .u16 (y7 : Int)] 23)).heap.size = w3.heap.size + 1 := by simp
  have hg01 : w.heap.size < w2.heap.size := HR2.out.lt
  have hg12 : w2.heap.size < w3.heap.size := HA3.out.lt
  clear HB0 HV0 HR0 HB1 HV1 HR1 HB2 HV2 HR2 HB2b HV2b HR2b HA2 HB3 HR3 HA3 HCut HRd1 HRd2 HFit
  obtain ⟨W, hW⟩ : ∃ W, w3.alloc (.cells #[.int .u16 (y0 : Int), .int .u16 (y1 : Int), .int .u16 (y2 : Int), .int .u16 (y3 : Int), .int .u16 (y4 : Int), .int .u16 (y5 : Int), .int .u16 (y6 : Int), .int .u16 (y7 : Int)] 23) = W := ⟨_, rfl⟩
  rw [hW] at HC3 HB3b HR3b HA3b hsz3 ⊢
  obtain ⟨g1, hg1⟩ : ∃ g1, w2.heap.size = g1 := ⟨_, rfl⟩
  obtain ⟨g2, hg2⟩ : ∃ g2, w3.heap.size = g2 := ⟨_, rfl⟩
  obtain ⟨g0, hg0⟩ : ∃ g0, w.heap.size = g0 := ⟨_, rfl⟩
  have HG0 := Lib.hid hg0
  rw [hg1] at HA3b hg01 hg12 ⊢
  rw [hg2] at HC3 hg12 hsz3 ⊢
  rw [hg0] at HR3b hg01 ⊢
  clear hW hg0 hg1 hg2
  have hcp : ∀ (ty : TypeId) (W' : World), W'.heap = W.heap → (Builtin.copy_ #[42, 42] ty #[.slice (some ⟨g1, 5, none⟩) 3 3, .slice (some ⟨g2, 0, none⟩) 3 8]).run Tryd.prog W' = .ok (.int .i64 3) (W'.setRow g1 #[.int .u16 (x0 : Int), .int .u16 (x1 : Int), .int .u16 (x2 : Int), .int .u16 (x3 : Int), .int .u16 (x4 : Int), .int .u16 (y0 : Int), .int .u16 (y1 : Int), .int .u16 (y2 : Int)]) := by
    intro ty W' hh
    have hsrc := run_copy_row (P := Tryd.prog) W' 42 42 ty 22 g1 5 3 3 ⟨g2, 0, none⟩ 3 8 #[.int .u16 (x0 : Int), .int .u16 (x1 : Int), .int .u16 (x2 : Int), .int .u16 (x3 : Int), .int .u16 (x4 : Int), .int .u16 (x5 : Int), .int .u16 (x6 : Int), .int .u16 (x7 : Int)] 23 [.int .u16 (y0 : Int), .int .u16 (y1 : Int), .int .u16 (y2 : Int)] Tryd.underlying42 (by kernel_rfl) (HA3b.out.heap hh) rfl (copy_src 3 (HC3.out.heap hh)) (by simp) (by simp [Value.oneCell'])
    exact hsrc
  clear HC3
  have hwr : IntKind.i64.wrap 5 = 5 := by decide
  have hcd := hcp 3 W.drew rfl
  have HGl : Hid (w.heap.size ≤ g0) := Lib.hid (Nat.le_of_eq HG0.out)
  have HR5 : Hid (RowU 23 (W.drew.setRow g1 #[.int .u16 (x0 : Int), .int .u16 (x1 : Int), .int .u16 (x2 : Int), .int .u16 (x3 : Int), .int .u16 (x4 : Int), .int .u16 (y0 : Int), .int .u16 (y1 : Int), .int .u16 (y2 : Int)]) g0 zero8) := by
    show RowU _ _ _ _
    exact (setRow_other _ _ _ _ (by omega)).trans HR3b.out
  have HA5 : Hid (RowU 23 (W.drew.setRow g1 #[.int .u16 (x0 : Int), .int .u16 (x1 : Int), .int .u16 (x2 : Int), .int .u16 (x3 : Int), .int .u16 (x4 : Int), .int .u16 (y0 : Int), .int .u16 (y1 : Int), .int .u16 (y2 : Int)]) g1 [x0, x1, x2, x3, x4, y0, y1, y2]) := by
    show RowU _ _ _ _
    exact setRow_heap _ _ _ _ _ _ (HA3b.out)
  have HB5 : Hid (Below w.heap.size w (W.drew.setRow g1 #[.int .u16 (x0 : Int), .int .u16 (x1 : Int), .int .u16 (x2 : Int), .int .u16 (x3 : Int), .int .u16 (x4 : Int), .int .u16 (y0 : Int), .int .u16 (y1 : Int), .int .u16 (y2 : Int)])) := by
    show Below _ _ _
    exact below_setRow HB3b.out.drew (by have := HG0.out; omega) _
  have HF : Hid (fill8 a b = [x0, x1, x2, x3, x4, y0, y1, y2]) := by
    show fill8 a b = _
    have h := fill_eq (a := a) (b := b) hn
    rw [HPp.out, HQq.out, h0] at h
    exact h
  clear hcp hn
  go_region
  generalize (W.drew.setRow g1 #[.int .u16 (x0 : Int), .int .u16 (x1 : Int), .int .u16 (x2 : Int), .int .u16 (x3 : Int), .int .u16 (x4 : Int), .int .u16 (y0 : Int), .int .u16 (y1 : Int), .int .u16 (y2 : Int)]) = W5 at HR5 HA5 HB5 ⊢
  obtain ⟨pc0, pc1, pc2, pc3, pc4, pc5, pc6, pc7, pf0, pf1, pf2, pf3, pf4, pf5, pf6, pf7⟩ := rows8 HA5.out
  obtain ⟨rc0, rc1, rc2, rc3, rc4, rc5, rc6, rc7, rf0, rf1, rf2, rf3, rf4, rf5, rf6, rf7⟩ := rows8 HR5.out
  have hgl5 := HR5.out.lt
  have hgl6 := HA5.out.lt
  go_wp2
  refine bodyPost_ret (parse_res (put8_rows HR5.out rfl x0 x1 x2 x3 x4 y0 y1 y2) _ .nilIface rfl rfl) rfl ?_
  refine ⟨?_, below_put8 HGl.out HB5.out _ _ _ _ _ _ _ _⟩
  rw [HF.out]
  rfl


set_option maxHeartbeats 4000000 in
set_option maxRecDepth 100000 in
theorem parse_g4 (s : ByteArray) (hs : s.size ≤ 10000) (w : World) (hv : V8 w) (k : Nat) (hc : colons8 s.data.toList = some k) (a b : List Nat) (h1 : side8 (s.data.toList.take k) false = some a) (h2 : side8 (s.data.toList.drop (k + 2)) true = some b) (hn : a.length + b.length < 8) (h0 : b.length = 4) : Calls Tryd.prog 10 #[.string s] w (SixPost (some (fill8 a b)) w) := by
  obtain ⟨hs1, hs2⟩ := sides_size s k hs
  have HCut := Lib.hid (fun w hv => pair_yes hc hs w hv)
  have ha8 := (side8_len h1).1
  have hb8 := (side8_len h2).1
  obtain ⟨x0, x1, x2, x3, x4, x5, x6, x7, hp⟩ := eight_of8 (padN_len ha8)
  obtain ⟨y0, y1, y2, y3, y4, y5, y6, y7, hq⟩ := eight_of8 (padN_len hb8)
  have HRd1 := Lib.hid (fun w hv => read_ok (s := btx (s.data.toList.take k)) h1 hp hs1 w hv)
  have HRd2 := Lib.hid (fun w hv => read_ok (s := btx (s.data.toList.drop (k + 2))) h2 hq hs2 w hv)
  generalize btx (s.data.toList.take k) = p at hs1 HCut HRd1
  generalize btx (s.data.toList.drop (k + 2)) = q at hs2 HCut HRd2
  have HPp := Lib.hid hp
  have HQq := Lib.hid hq
  have HFit : Hid (∀ w, Calls Tryd.prog 19 #[.int .i64 ((a.length : Int) + 4), .bool true] w fun e w' => e = .returned (.bool true) ∧ w = w') := fits_any (a.length + 4) true true (by rw [h0] at hn; simp [hn])
  clear hc h1 h2 hp hq hs1 hs2
  have HR0 : Hid (RowU 23 (w.alloc (.cells #[.int .u16 0, .int .u16 0, .int .u16 0, .int .u16 0, .int .u16 0, .int .u16 0, .int .u16 0, .int .u16 0] 23)) w.heap.size zero8) := by
    show RowU _ _ _ _
    exact RowU.new 23 w zero8
  have HB0 : Hid (Below w.heap.size w (w.alloc (.cells #[.int .u16 0, .int .u16 0, .int .u16 0, .int .u16 0, .int .u16 0, .int .u16 0, .int .u16 0, .int .u16 0] 23))) := bel8 _ _
  have HV0 : Hid (V8 (w.alloc (.cells #[.int .u16 0, .int .u16 0, .int .u16 0, .int .u16 0, .int .u16 0, .int .u16 0, .int .u16 0, .int .u16 0] 23))) := hv.below (bel8 _ _)
  clear hv
  go_enter Tryd.func10, Tryd.ntmps10
  go_wp2_with (first
    | (go_at_call 17; (with_reducible refine (HCut.out _ HV0.out).mono ?_); rintro e w1 ⟨rfl, hb⟩; have HB1 := Lib.hid (bnx8 HB0.out hb); have HV1 := Lib.hid (HV0.out.below hb); have HR1 := Lib.hid (HR0.out.below hb); clear hb)
    | (go_at_call 18; (with_reducible refine (HRd2.out _ HV2b.out).mono ?_); rintro e w3 ⟨rfl, hb⟩; have HB3 := Lib.hid (bnx8 HB2b.out hb); have HR3 := Lib.hid (HR2b.out.below hb); have HA3 := Lib.hid (HA2.out.below hb); have HB3b := Lib.hid (bal8 HB3.out (.cells #[.int .u16 (y0 : Int), .int .u16 (y1 : Int), .int .u16 (y2 : Int), .int .u16 (y3 : Int), .int .u16 (y4 : Int), .int .u16 (y5 : Int), .int .u16 (y6 : Int), .int .u16 (y7 : Int)] 23)); have HR3b := Lib.hid (HR3.out.below (bel8 (.cells #[.int .u16 (y0 : Int), .int .u16 (y1 : Int), .int .u16 (y2 : Int), .int .u16 (y3 : Int), .int .u16 (y4 : Int), .int .u16 (y5 : Int), .int .u16 (y6 : Int), .int .u16 (y7 : Int)] 23) w3)); have HA3b := Lib.hid (HA3.out.below (bel8 (.cells #[.int .u16 (y0 : Int), .int .u16 (y1 : Int), .int .u16 (y2 : Int), .int .u16 (y3 : Int), .int .u16 (y4 : Int), .int .u16 (y5 : Int), .int .u16 (y6 : Int), .int .u16 (y7 : Int)] 23) w3)); have HC3 := Lib.hid (RowU.new 23 w3 [y0, y1, y2, y3, y4, y5, y6, y7]); clear hb)
    | (go_at_call 18; (with_reducible refine (HRd1.out _ HV1.out).mono ?_); rintro e w2 ⟨rfl, hb⟩; have HB2 := Lib.hid (bnx8 HB1.out hb); have HV2 := Lib.hid (HV1.out.below hb); have HR2 := Lib.hid (HR1.out.below hb); have HB2b := Lib.hid (bal8 HB2.out (.cells #[.int .u16 (x0 : Int), .int .u16 (x1 : Int), .int .u16 (x2 : Int), .int .u16 (x3 : Int), .int .u16 (x4 : Int), .int .u16 (x5 : Int), .int .u16 (x6 : Int), .int .u16 (x7 : Int)] 23)); have HV2b := Lib.hid (HV2.out.below (bel8 (.cells #[.int .u16 (x0 : Int), .int .u16 (x1 : Int), .int .u16 (x2 : Int), .int .u16 (x3 : Int), .int .u16 (x4 : Int), .int .u16 (x5 : Int), .int .u16 (x6 : Int), .int .u16 (x7 : Int)] 23) w2)); have HR2b := Lib.hid (HR2.out.below (bel8 (.cells #[.int .u16 (x0 : Int), .int .u16 (x1 : Int), .int .u16 (x2 : Int), .int .u16 (x3 : Int), .int .u16 (x4 : Int), .int .u16 (x5 : Int), .int .u16 (x6 : Int), .int .u16 (x7 : Int)] 23) w2)); have HA2 := Lib.hid (RowU.new 23 w2 [x0, x1, x2, x3, x4, x5, x6, x7]); clear hb)
    | (go_at_call 19; (with_reducible refine (HFit.out _).mono ?_); rintro e w9 ⟨rfl, rfl⟩))
  have HC3 : Hid (RowU 23 (w3.alloc (.cells #[.int .u16 (y0 : Int), .int .u16 (y1 : Int), .int .u16 (y2 : Int), .int .u16 (y3 : Int), .int .u16 (y4 : Int), .int .u16 (y5 : Int), .int .u16 (y6 : Int), .int .u16 (y7 : Int)] 23)) w3.heap.size [y0, y1, y2, y3, y4, y5, y6, y7]) := HC3
  have hsz3 : (w3.alloc (.cells #[.int .u16 (y0 : Int), .int .u16 (y1 : Int), .int .u16 (y2 : Int), .int .u16 (y3 : Int), .int .u16 (y4 : Int), .int .u16 (y5 : Int), .int .u16 (y6 : Int), .int .u16 (y7 : Int)] 23)).heap.size = w3.heap.size + 1 := by simp
  have hg01 : w.heap.size < w2.heap.size := HR2.out.lt
  have hg12 : w2.heap.size < w3.heap.size := HA3.out.lt
  clear HB0 HV0 HR0 HB1 HV1 HR1 HB2 HV2 HR2 HB2b HV2b HR2b HA2 HB3 HR3 HA3 HCut HRd1 HRd2 HFit
  obtain ⟨W, hW⟩ : ∃ W, w3.alloc (.cells #[.int .u16 (y0 : Int), .int .u16 (y1 : Int), .int .u16 (y2 : Int), .int .u16 (y3 : Int), .int .u16 (y4 : Int), .int .u16 (y5 : Int), .int .u16 (y6 : Int), .int .u16 (y7 : Int)] 23) = W := ⟨_, rfl⟩
  rw [hW] at HC3 HB3b HR3b HA3b hsz3 ⊢
  obtain ⟨g1, hg1⟩ : ∃ g1, w2.heap.size = g1 := ⟨_, rfl⟩
  obtain ⟨g2, hg2⟩ : ∃ g2, w3.heap.size = g2 := ⟨_, rfl⟩
  obtain ⟨g0, hg0⟩ : ∃ g0, w.heap.size = g0 := ⟨_, rfl⟩
  have HG0 := Lib.hid hg0
  rw [hg1] at HA3b hg01 hg12 ⊢
  rw [hg2] at HC3 hg12 hsz3 ⊢
  rw [hg0] at HR3b hg01 ⊢
  clear hW hg0 hg1 hg2
  have hcp : ∀ (ty : TypeId) (W' : World), W'.heap = W.heap → (Builtin.copy_ #[42, 42] ty #[.slice (some ⟨g1, 4, none⟩) 4 4, .slice (some ⟨g2, 0, none⟩) 4 8]).run Tryd.prog W' = .ok (.int .i64 4) (W'.setRow g1 #[.int .u16 (x0 : Int), .int .u16 (x1 : Int), .int .u16 (x2 : Int), .int .u16 (x3 : Int), .int .u16 (y0 : Int), .int .u16 (y1 : Int), .int .u16 (y2 : Int), .int .u16 (y3 : Int)]) := by
    intro ty W' hh
    have hsrc := run_copy_row (P := Tryd.prog) W' 42 42 ty 22 g1 4 4 4 ⟨g2, 0, none⟩ 4 8 #[.int .u16 (x0 : Int), .int .u16 (x1 : Int), .int .u16 (x2 : Int), .int .u16 (x3 : Int), .int .u16 (x4 : Int), .int .u16 (x5 : Int), .int .u16 (x6 : Int), .int .u16 (x7 : Int)] 23 [.int .u16 (y0 : Int), .int .u16 (y1 : Int), .int .u16 (y2 : Int), .int .u16 (y3 : Int)] Tryd.underlying42 (by kernel_rfl) (HA3b.out.heap hh) rfl (copy_src 4 (HC3.out.heap hh)) (by simp) (by simp [Value.oneCell'])
    exact hsrc
  clear HC3
  have hwr : IntKind.i64.wrap 4 = 4 := by decide
  have hcd := hcp 3 W.drew rfl
  have HGl : Hid (w.heap.size ≤ g0) := Lib.hid (Nat.le_of_eq HG0.out)
  have HR5 : Hid (RowU 23 (W.drew.setRow g1 #[.int .u16 (x0 : Int), .int .u16 (x1 : Int), .int .u16 (x2 : Int), .int .u16 (x3 : Int), .int .u16 (y0 : Int), .int .u16 (y1 : Int), .int .u16 (y2 : Int), .int .u16 (y3 : Int)]) g0 zero8) := by
    show RowU _ _ _ _
    exact (setRow_other _ _ _ _ (by omega)).trans HR3b.out
  have HA5 : Hid (RowU 23 (W.drew.setRow g1 #[.int .u16 (x0 : Int), .int .u16 (x1 : Int), .int .u16 (x2 : Int), .int .u16 (x3 : Int), .int .u16 (y0 : Int), .int .u16 (y1 : Int), .int .u16 (y2 : Int), .int .u16 (y3 : Int)]) g1 [x0, x1, x2, x3, y0, y1, y2, y3]) := by
    show RowU _ _ _ _
    exact setRow_heap _ _ _ _ _ _ (HA3b.out)
  have HB5 : Hid (Below w.heap.size w (W.drew.setRow g1 #[.int .u16 (x0 : Int), .int .u16 (x1 : Int), .int .u16 (x2 : Int), .int .u16 (x3 : Int), .int .u16 (y0 : Int), .int .u16 (y1 : Int), .int .u16 (y2 : Int), .int .u16 (y3 : Int)])) := by
    show Below _ _ _
    exact below_setRow HB3b.out.drew (by have := HG0.out; omega) _
  have HF : Hid (fill8 a b = [x0, x1, x2, x3, y0, y1, y2, y3]) := by
    show fill8 a b = _
    have h := fill_eq (a := a) (b := b) hn
    rw [HPp.out, HQq.out, h0] at h
    exact h
  clear hcp hn
  go_region
  generalize (W.drew.setRow g1 #[.int .u16 (x0 : Int), .int .u16 (x1 : Int), .int .u16 (x2 : Int), .int .u16 (x3 : Int), .int .u16 (y0 : Int), .int .u16 (y1 : Int), .int .u16 (y2 : Int), .int .u16 (y3 : Int)]) = W5 at HR5 HA5 HB5 ⊢
  obtain ⟨pc0, pc1, pc2, pc3, pc4, pc5, pc6, pc7, pf0, pf1, pf2, pf3, pf4, pf5, pf6, pf7⟩ := rows8 HA5.out
  obtain ⟨rc0, rc1, rc2, rc3, rc4, rc5, rc6, rc7, rf0, rf1, rf2, rf3, rf4, rf5, rf6, rf7⟩ := rows8 HR5.out
  have hgl5 := HR5.out.lt
  have hgl6 := HA5.out.lt
  go_wp2
  refine bodyPost_ret (parse_res (put8_rows HR5.out rfl x0 x1 x2 x3 y0 y1 y2 y3) _ .nilIface rfl rfl) rfl ?_
  refine ⟨?_, below_put8 HGl.out HB5.out _ _ _ _ _ _ _ _⟩
  rw [HF.out]
  rfl


set_option maxHeartbeats 4000000 in
set_option maxRecDepth 100000 in
theorem parse_g5 (s : ByteArray) (hs : s.size ≤ 10000) (w : World) (hv : V8 w) (k : Nat) (hc : colons8 s.data.toList = some k) (a b : List Nat) (h1 : side8 (s.data.toList.take k) false = some a) (h2 : side8 (s.data.toList.drop (k + 2)) true = some b) (hn : a.length + b.length < 8) (h0 : b.length = 5) : Calls Tryd.prog 10 #[.string s] w (SixPost (some (fill8 a b)) w) := by
  obtain ⟨hs1, hs2⟩ := sides_size s k hs
  have HCut := Lib.hid (fun w hv => pair_yes hc hs w hv)
  have ha8 := (side8_len h1).1
  have hb8 := (side8_len h2).1
  obtain ⟨x0, x1, x2, x3, x4, x5, x6, x7, hp⟩ := eight_of8 (padN_len ha8)
  obtain ⟨y0, y1, y2, y3, y4, y5, y6, y7, hq⟩ := eight_of8 (padN_len hb8)
  have HRd1 := Lib.hid (fun w hv => read_ok (s := btx (s.data.toList.take k)) h1 hp hs1 w hv)
  have HRd2 := Lib.hid (fun w hv => read_ok (s := btx (s.data.toList.drop (k + 2))) h2 hq hs2 w hv)
  generalize btx (s.data.toList.take k) = p at hs1 HCut HRd1
  generalize btx (s.data.toList.drop (k + 2)) = q at hs2 HCut HRd2
  have HPp := Lib.hid hp
  have HQq := Lib.hid hq
  have HFit : Hid (∀ w, Calls Tryd.prog 19 #[.int .i64 ((a.length : Int) + 5), .bool true] w fun e w' => e = .returned (.bool true) ∧ w = w') := fits_any (a.length + 5) true true (by rw [h0] at hn; simp [hn])
  clear hc h1 h2 hp hq hs1 hs2
  have HR0 : Hid (RowU 23 (w.alloc (.cells #[.int .u16 0, .int .u16 0, .int .u16 0, .int .u16 0, .int .u16 0, .int .u16 0, .int .u16 0, .int .u16 0] 23)) w.heap.size zero8) := by
    show RowU _ _ _ _
    exact RowU.new 23 w zero8
  have HB0 : Hid (Below w.heap.size w (w.alloc (.cells #[.int .u16 0, .int .u16 0, .int .u16 0, .int .u16 0, .int .u16 0, .int .u16 0, .int .u16 0, .int .u16 0] 23))) := bel8 _ _
  have HV0 : Hid (V8 (w.alloc (.cells #[.int .u16 0, .int .u16 0, .int .u16 0, .int .u16 0, .int .u16 0, .int .u16 0, .int .u16 0, .int .u16 0] 23))) := hv.below (bel8 _ _)
  clear hv
  go_enter Tryd.func10, Tryd.ntmps10
  go_wp2_with (first
    | (go_at_call 17; (with_reducible refine (HCut.out _ HV0.out).mono ?_); rintro e w1 ⟨rfl, hb⟩; have HB1 := Lib.hid (bnx8 HB0.out hb); have HV1 := Lib.hid (HV0.out.below hb); have HR1 := Lib.hid (HR0.out.below hb); clear hb)
    | (go_at_call 18; (with_reducible refine (HRd2.out _ HV2b.out).mono ?_); rintro e w3 ⟨rfl, hb⟩; have HB3 := Lib.hid (bnx8 HB2b.out hb); have HR3 := Lib.hid (HR2b.out.below hb); have HA3 := Lib.hid (HA2.out.below hb); have HB3b := Lib.hid (bal8 HB3.out (.cells #[.int .u16 (y0 : Int), .int .u16 (y1 : Int), .int .u16 (y2 : Int), .int .u16 (y3 : Int), .int .u16 (y4 : Int), .int .u16 (y5 : Int), .int .u16 (y6 : Int), .int .u16 (y7 : Int)] 23)); have HR3b := Lib.hid (HR3.out.below (bel8 (.cells #[.int .u16 (y0 : Int), .int .u16 (y1 : Int), .int .u16 (y2 : Int), .int .u16 (y3 : Int), .int .u16 (y4 : Int), .int .u16 (y5 : Int), .int .u16 (y6 : Int), .int .u16 (y7 : Int)] 23) w3)); have HA3b := Lib.hid (HA3.out.below (bel8 (.cells #[.int .u16 (y0 : Int), .int .u16 (y1 : Int), .int .u16 (y2 : Int), .int .u16 (y3 : Int), .int .u16 (y4 : Int), .int .u16 (y5 : Int), .int .u16 (y6 : Int), .int .u16 (y7 : Int)] 23) w3)); have HC3 := Lib.hid (RowU.new 23 w3 [y0, y1, y2, y3, y4, y5, y6, y7]); clear hb)
    | (go_at_call 18; (with_reducible refine (HRd1.out _ HV1.out).mono ?_); rintro e w2 ⟨rfl, hb⟩; have HB2 := Lib.hid (bnx8 HB1.out hb); have HV2 := Lib.hid (HV1.out.below hb); have HR2 := Lib.hid (HR1.out.below hb); have HB2b := Lib.hid (bal8 HB2.out (.cells #[.int .u16 (x0 : Int), .int .u16 (x1 : Int), .int .u16 (x2 : Int), .int .u16 (x3 : Int), .int .u16 (x4 : Int), .int .u16 (x5 : Int), .int .u16 (x6 : Int), .int .u16 (x7 : Int)] 23)); have HV2b := Lib.hid (HV2.out.below (bel8 (.cells #[.int .u16 (x0 : Int), .int .u16 (x1 : Int), .int .u16 (x2 : Int), .int .u16 (x3 : Int), .int .u16 (x4 : Int), .int .u16 (x5 : Int), .int .u16 (x6 : Int), .int .u16 (x7 : Int)] 23) w2)); have HR2b := Lib.hid (HR2.out.below (bel8 (.cells #[.int .u16 (x0 : Int), .int .u16 (x1 : Int), .int .u16 (x2 : Int), .int .u16 (x3 : Int), .int .u16 (x4 : Int), .int .u16 (x5 : Int), .int .u16 (x6 : Int), .int .u16 (x7 : Int)] 23) w2)); have HA2 := Lib.hid (RowU.new 23 w2 [x0, x1, x2, x3, x4, x5, x6, x7]); clear hb)
    | (go_at_call 19; (with_reducible refine (HFit.out _).mono ?_); rintro e w9 ⟨rfl, rfl⟩))
  have HC3 : Hid (RowU 23 (w3.alloc (.cells #[.int .u16 (y0 : Int), .int .u16 (y1 : Int), .int .u16 (y2 : Int), .int .u16 (y3 : Int), .int .u16 (y4 : Int), .int .u16 (y5 : Int), .int .u16 (y6 : Int), .int .u16 (y7 : Int)] 23)) w3.heap.size [y0, y1, y2, y3, y4, y5, y6, y7]) := HC3
  have hsz3 : (w3.alloc (.cells #[.int .u16 (y0 : Int), .int .u16 (y1 : Int), .int .u16 (y2 : Int), .int .u16 (y3 : Int), .int .u16 (y4 : Int), .int .u16 (y5 : Int), .int .u16 (y6 : Int), .int .u16 (y7 : Int)] 23)).heap.size = w3.heap.size + 1 := by simp
  have hg01 : w.heap.size < w2.heap.size := HR2.out.lt
  have hg12 : w2.heap.size < w3.heap.size := HA3.out.lt
  clear HB0 HV0 HR0 HB1 HV1 HR1 HB2 HV2 HR2 HB2b HV2b HR2b HA2 HB3 HR3 HA3 HCut HRd1 HRd2 HFit
  obtain ⟨W, hW⟩ : ∃ W, w3.alloc (.cells #[.int .u16 (y0 : Int), .int .u16 (y1 : Int), .int .u16 (y2 : Int), .int .u16 (y3 : Int), .int .u16 (y4 : Int), .int .u16 (y5 : Int), .int .u16 (y6 : Int), .int .u16 (y7 : Int)] 23) = W := ⟨_, rfl⟩
  rw [hW] at HC3 HB3b HR3b HA3b hsz3 ⊢
  obtain ⟨g1, hg1⟩ : ∃ g1, w2.heap.size = g1 := ⟨_, rfl⟩
  obtain ⟨g2, hg2⟩ : ∃ g2, w3.heap.size = g2 := ⟨_, rfl⟩
  obtain ⟨g0, hg0⟩ : ∃ g0, w.heap.size = g0 := ⟨_, rfl⟩
  have HG0 := Lib.hid hg0
  rw [hg1] at HA3b hg01 hg12 ⊢
  rw [hg2] at HC3 hg12 hsz3 ⊢
  rw [hg0] at HR3b hg01 ⊢
  clear hW hg0 hg1 hg2
  have hcp : ∀ (ty : TypeId) (W' : World), W'.heap = W.heap → (Builtin.copy_ #[42, 42] ty #[.slice (some ⟨g1, 3, none⟩) 5 5, .slice (some ⟨g2, 0, none⟩) 5 8]).run Tryd.prog W' = .ok (.int .i64 5) (W'.setRow g1 #[.int .u16 (x0 : Int), .int .u16 (x1 : Int), .int .u16 (x2 : Int), .int .u16 (y0 : Int), .int .u16 (y1 : Int), .int .u16 (y2 : Int), .int .u16 (y3 : Int), .int .u16 (y4 : Int)]) := by
    intro ty W' hh
    have hsrc := run_copy_row (P := Tryd.prog) W' 42 42 ty 22 g1 3 5 5 ⟨g2, 0, none⟩ 5 8 #[.int .u16 (x0 : Int), .int .u16 (x1 : Int), .int .u16 (x2 : Int), .int .u16 (x3 : Int), .int .u16 (x4 : Int), .int .u16 (x5 : Int), .int .u16 (x6 : Int), .int .u16 (x7 : Int)] 23 [.int .u16 (y0 : Int), .int .u16 (y1 : Int), .int .u16 (y2 : Int), .int .u16 (y3 : Int), .int .u16 (y4 : Int)] Tryd.underlying42 (by kernel_rfl) (HA3b.out.heap hh) rfl (copy_src 5 (HC3.out.heap hh)) (by simp) (by simp [Value.oneCell'])
    exact hsrc
  clear HC3
  have hwr : IntKind.i64.wrap 3 = 3 := by decide
  have hcd := hcp 3 W.drew rfl
  have HGl : Hid (w.heap.size ≤ g0) := Lib.hid (Nat.le_of_eq HG0.out)
  have HR5 : Hid (RowU 23 (W.drew.setRow g1 #[.int .u16 (x0 : Int), .int .u16 (x1 : Int), .int .u16 (x2 : Int), .int .u16 (y0 : Int), .int .u16 (y1 : Int), .int .u16 (y2 : Int), .int .u16 (y3 : Int), .int .u16 (y4 : Int)]) g0 zero8) := by
    show RowU _ _ _ _
    exact (setRow_other _ _ _ _ (by omega)).trans HR3b.out
  have HA5 : Hid (RowU 23 (W.drew.setRow g1 #[.int .u16 (x0 : Int), .int .u16 (x1 : Int), .int .u16 (x2 : Int), .int .u16 (y0 : Int), .int .u16 (y1 : Int), .int .u16 (y2 : Int), .int .u16 (y3 : Int), .int .u16 (y4 : Int)]) g1 [x0, x1, x2, y0, y1, y2, y3, y4]) := by
    show RowU _ _ _ _
    exact setRow_heap _ _ _ _ _ _ (HA3b.out)
  have HB5 : Hid (Below w.heap.size w (W.drew.setRow g1 #[.int .u16 (x0 : Int), .int .u16 (x1 : Int), .int .u16 (x2 : Int), .int .u16 (y0 : Int), .int .u16 (y1 : Int), .int .u16 (y2 : Int), .int .u16 (y3 : Int), .int .u16 (y4 : Int)])) := by
    show Below _ _ _
    exact below_setRow HB3b.out.drew (by have := HG0.out; omega) _
  have HF : Hid (fill8 a b = [x0, x1, x2, y0, y1, y2, y3, y4]) := by
    show fill8 a b = _
    have h := fill_eq (a := a) (b := b) hn
    rw [HPp.out, HQq.out, h0] at h
    exact h
  clear hcp hn
  go_region
  generalize (W.drew.setRow g1 #[.int .u16 (x0 : Int), .int .u16 (x1 : Int), .int .u16 (x2 : Int), .int .u16 (y0 : Int), .int .u16 (y1 : Int), .int .u16 (y2 : Int), .int .u16 (y3 : Int), .int .u16 (y4 : Int)]) = W5 at HR5 HA5 HB5 ⊢
  obtain ⟨pc0, pc1, pc2, pc3, pc4, pc5, pc6, pc7, pf0, pf1, pf2, pf3, pf4, pf5, pf6, pf7⟩ := rows8 HA5.out
  obtain ⟨rc0, rc1, rc2, rc3, rc4, rc5, rc6, rc7, rf0, rf1, rf2, rf3, rf4, rf5, rf6, rf7⟩ := rows8 HR5.out
  have hgl5 := HR5.out.lt
  have hgl6 := HA5.out.lt
  go_wp2
  refine bodyPost_ret (parse_res (put8_rows HR5.out rfl x0 x1 x2 y0 y1 y2 y3 y4) _ .nilIface rfl rfl) rfl ?_
  refine ⟨?_, below_put8 HGl.out HB5.out _ _ _ _ _ _ _ _⟩
  rw [HF.out]
  rfl


set_option maxHeartbeats 4000000 in
set_option maxRecDepth 100000 in
theorem parse_g6 (s : ByteArray) (hs : s.size ≤ 10000) (w : World) (hv : V8 w) (k : Nat) (hc : colons8 s.data.toList = some k) (a b : List Nat) (h1 : side8 (s.data.toList.take k) false = some a) (h2 : side8 (s.data.toList.drop (k + 2)) true = some b) (hn : a.length + b.length < 8) (h0 : b.length = 6) : Calls Tryd.prog 10 #[.string s] w (SixPost (some (fill8 a b)) w) := by
  obtain ⟨hs1, hs2⟩ := sides_size s k hs
  have HCut := Lib.hid (fun w hv => pair_yes hc hs w hv)
  have ha8 := (side8_len h1).1
  have hb8 := (side8_len h2).1
  obtain ⟨x0, x1, x2, x3, x4, x5, x6, x7, hp⟩ := eight_of8 (padN_len ha8)
  obtain ⟨y0, y1, y2, y3, y4, y5, y6, y7, hq⟩ := eight_of8 (padN_len hb8)
  have HRd1 := Lib.hid (fun w hv => read_ok (s := btx (s.data.toList.take k)) h1 hp hs1 w hv)
  have HRd2 := Lib.hid (fun w hv => read_ok (s := btx (s.data.toList.drop (k + 2))) h2 hq hs2 w hv)
  generalize btx (s.data.toList.take k) = p at hs1 HCut HRd1
  generalize btx (s.data.toList.drop (k + 2)) = q at hs2 HCut HRd2
  have HPp := Lib.hid hp
  have HQq := Lib.hid hq
  have HFit : Hid (∀ w, Calls Tryd.prog 19 #[.int .i64 ((a.length : Int) + 6), .bool true] w fun e w' => e = .returned (.bool true) ∧ w = w') := fits_any (a.length + 6) true true (by rw [h0] at hn; simp [hn])
  clear hc h1 h2 hp hq hs1 hs2
  have HR0 : Hid (RowU 23 (w.alloc (.cells #[.int .u16 0, .int .u16 0, .int .u16 0, .int .u16 0, .int .u16 0, .int .u16 0, .int .u16 0, .int .u16 0] 23)) w.heap.size zero8) := by
    show RowU _ _ _ _
    exact RowU.new 23 w zero8
  have HB0 : Hid (Below w.heap.size w (w.alloc (.cells #[.int .u16 0, .int .u16 0, .int .u16 0, .int .u16 0, .int .u16 0, .int .u16 0, .int .u16 0, .int .u16 0] 23))) := bel8 _ _
  have HV0 : Hid (V8 (w.alloc (.cells #[.int .u16 0, .int .u16 0, .int .u16 0, .int .u16 0, .int .u16 0, .int .u16 0, .int .u16 0, .int .u16 0] 23))) := hv.below (bel8 _ _)
  clear hv
  go_enter Tryd.func10, Tryd.ntmps10
  go_wp2_with (first
    | (go_at_call 17; (with_reducible refine (HCut.out _ HV0.out).mono ?_); rintro e w1 ⟨rfl, hb⟩; have HB1 := Lib.hid (bnx8 HB0.out hb); have HV1 := Lib.hid (HV0.out.below hb); have HR1 := Lib.hid (HR0.out.below hb); clear hb)
    | (go_at_call 18; (with_reducible refine (HRd2.out _ HV2b.out).mono ?_); rintro e w3 ⟨rfl, hb⟩; have HB3 := Lib.hid (bnx8 HB2b.out hb); have HR3 := Lib.hid (HR2b.out.below hb); have HA3 := Lib.hid (HA2.out.below hb); have HB3b := Lib.hid (bal8 HB3.out (.cells #[.int .u16 (y0 : Int), .int .u16 (y1 : Int), .int .u16 (y2 : Int), .int .u16 (y3 : Int), .int .u16 (y4 : Int), .int .u16 (y5 : Int), .int .u16 (y6 : Int), .int .u16 (y7 : Int)] 23)); have HR3b := Lib.hid (HR3.out.below (bel8 (.cells #[.int .u16 (y0 : Int), .int .u16 (y1 : Int), .int .u16 (y2 : Int), .int .u16 (y3 : Int), .int .u16 (y4 : Int), .int .u16 (y5 : Int), .int .u16 (y6 : Int), .int .u16 (y7 : Int)] 23) w3)); have HA3b := Lib.hid (HA3.out.below (bel8 (.cells #[.int .u16 (y0 : Int), .int .u16 (y1 : Int), .int .u16 (y2 : Int), .int .u16 (y3 : Int), .int .u16 (y4 : Int), .int .u16 (y5 : Int), .int .u16 (y6 : Int), .int .u16 (y7 : Int)] 23) w3)); have HC3 := Lib.hid (RowU.new 23 w3 [y0, y1, y2, y3, y4, y5, y6, y7]); clear hb)
    | (go_at_call 18; (with_reducible refine (HRd1.out _ HV1.out).mono ?_); rintro e w2 ⟨rfl, hb⟩; have HB2 := Lib.hid (bnx8 HB1.out hb); have HV2 := Lib.hid (HV1.out.below hb); have HR2 := Lib.hid (HR1.out.below hb); have HB2b := Lib.hid (bal8 HB2.out (.cells #[.int .u16 (x0 : Int), .int .u16 (x1 : Int), .int .u16 (x2 : Int), .int .u16 (x3 : Int), .int .u16 (x4 : Int), .int .u16 (x5 : Int), .int .u16 (x6 : Int), .int .u16 (x7 : Int)] 23)); have HV2b := Lib.hid (HV2.out.below (bel8 (.cells #[.int .u16 (x0 : Int), .int .u16 (x1 : Int), .int .u16 (x2 : Int), .int .u16 (x3 : Int), .int .u16 (x4 : Int), .int .u16 (x5 : Int), .int .u16 (x6 : Int), .int .u16 (x7 : Int)] 23) w2)); have HR2b := Lib.hid (HR2.out.below (bel8 (.cells #[.int .u16 (x0 : Int), .int .u16 (x1 : Int), .int .u16 (x2 : Int), .int .u16 (x3 : Int), .int .u16 (x4 : Int), .int .u16 (x5 : Int), .int .u16 (x6 : Int), .int .u16 (x7 : Int)] 23) w2)); have HA2 := Lib.hid (RowU.new 23 w2 [x0, x1, x2, x3, x4, x5, x6, x7]); clear hb)
    | (go_at_call 19; (with_reducible refine (HFit.out _).mono ?_); rintro e w9 ⟨rfl, rfl⟩))
  have HC3 : Hid (RowU 23 (w3.alloc (.cells #[.int .u16 (y0 : Int), .int .u16 (y1 : Int), .int .u16 (y2 : Int), .int .u16 (y3 : Int), .int .u16 (y4 : Int), .int .u16 (y5 : Int), .int .u16 (y6 : Int), .int .u16 (y7 : Int)] 23)) w3.heap.size [y0, y1, y2, y3, y4, y5, y6, y7]) := HC3
  have hsz3 : (w3.alloc (.cells #[.int .u16 (y0 : Int), .int .u16 (y1 : Int), .int .u16 (y2 : Int), .int .u16 (y3 : Int), .int .u16 (y4 : Int), .int .u16 (y5 : Int), .int .u16 (y6 : Int), .int .u16 (y7 : Int)] 23)).heap.size = w3.heap.size + 1 := by simp
  have hg01 : w.heap.size < w2.heap.size := HR2.out.lt
  have hg12 : w2.heap.size < w3.heap.size := HA3.out.lt
  clear HB0 HV0 HR0 HB1 HV1 HR1 HB2 HV2 HR2 HB2b HV2b HR2b HA2 HB3 HR3 HA3 HCut HRd1 HRd2 HFit
  obtain ⟨W, hW⟩ : ∃ W, w3.alloc (.cells #[.int .u16 (y0 : Int), .int .u16 (y1 : Int), .int .u16 (y2 : Int), .int .u16 (y3 : Int), .int .u16 (y4 : Int), .int .u16 (y5 : Int), .int .u16 (y6 : Int), .int .u16 (y7 : Int)] 23) = W := ⟨_, rfl⟩
  rw [hW] at HC3 HB3b HR3b HA3b hsz3 ⊢
  obtain ⟨g1, hg1⟩ : ∃ g1, w2.heap.size = g1 := ⟨_, rfl⟩
  obtain ⟨g2, hg2⟩ : ∃ g2, w3.heap.size = g2 := ⟨_, rfl⟩
  obtain ⟨g0, hg0⟩ : ∃ g0, w.heap.size = g0 := ⟨_, rfl⟩
  have HG0 := Lib.hid hg0
  rw [hg1] at HA3b hg01 hg12 ⊢
  rw [hg2] at HC3 hg12 hsz3 ⊢
  rw [hg0] at HR3b hg01 ⊢
  clear hW hg0 hg1 hg2
  have hcp : ∀ (ty : TypeId) (W' : World), W'.heap = W.heap → (Builtin.copy_ #[42, 42] ty #[.slice (some ⟨g1, 2, none⟩) 6 6, .slice (some ⟨g2, 0, none⟩) 6 8]).run Tryd.prog W' = .ok (.int .i64 6) (W'.setRow g1 #[.int .u16 (x0 : Int), .int .u16 (x1 : Int), .int .u16 (y0 : Int), .int .u16 (y1 : Int), .int .u16 (y2 : Int), .int .u16 (y3 : Int), .int .u16 (y4 : Int), .int .u16 (y5 : Int)]) := by
    intro ty W' hh
    have hsrc := run_copy_row (P := Tryd.prog) W' 42 42 ty 22 g1 2 6 6 ⟨g2, 0, none⟩ 6 8 #[.int .u16 (x0 : Int), .int .u16 (x1 : Int), .int .u16 (x2 : Int), .int .u16 (x3 : Int), .int .u16 (x4 : Int), .int .u16 (x5 : Int), .int .u16 (x6 : Int), .int .u16 (x7 : Int)] 23 [.int .u16 (y0 : Int), .int .u16 (y1 : Int), .int .u16 (y2 : Int), .int .u16 (y3 : Int), .int .u16 (y4 : Int), .int .u16 (y5 : Int)] Tryd.underlying42 (by kernel_rfl) (HA3b.out.heap hh) rfl (copy_src 6 (HC3.out.heap hh)) (by simp) (by simp [Value.oneCell'])
    exact hsrc
  clear HC3
  have hwr : IntKind.i64.wrap 2 = 2 := by decide
  have hcd := hcp 3 W.drew rfl
  have HGl : Hid (w.heap.size ≤ g0) := Lib.hid (Nat.le_of_eq HG0.out)
  have HR5 : Hid (RowU 23 (W.drew.setRow g1 #[.int .u16 (x0 : Int), .int .u16 (x1 : Int), .int .u16 (y0 : Int), .int .u16 (y1 : Int), .int .u16 (y2 : Int), .int .u16 (y3 : Int), .int .u16 (y4 : Int), .int .u16 (y5 : Int)]) g0 zero8) := by
    show RowU _ _ _ _
    exact (setRow_other _ _ _ _ (by omega)).trans HR3b.out
  have HA5 : Hid (RowU 23 (W.drew.setRow g1 #[.int .u16 (x0 : Int), .int .u16 (x1 : Int), .int .u16 (y0 : Int), .int .u16 (y1 : Int), .int .u16 (y2 : Int), .int .u16 (y3 : Int), .int .u16 (y4 : Int), .int .u16 (y5 : Int)]) g1 [x0, x1, y0, y1, y2, y3, y4, y5]) := by
    show RowU _ _ _ _
    exact setRow_heap _ _ _ _ _ _ (HA3b.out)
  have HB5 : Hid (Below w.heap.size w (W.drew.setRow g1 #[.int .u16 (x0 : Int), .int .u16 (x1 : Int), .int .u16 (y0 : Int), .int .u16 (y1 : Int), .int .u16 (y2 : Int), .int .u16 (y3 : Int), .int .u16 (y4 : Int), .int .u16 (y5 : Int)])) := by
    show Below _ _ _
    exact below_setRow HB3b.out.drew (by have := HG0.out; omega) _
  have HF : Hid (fill8 a b = [x0, x1, y0, y1, y2, y3, y4, y5]) := by
    show fill8 a b = _
    have h := fill_eq (a := a) (b := b) hn
    rw [HPp.out, HQq.out, h0] at h
    exact h
  clear hcp hn
  go_region
  generalize (W.drew.setRow g1 #[.int .u16 (x0 : Int), .int .u16 (x1 : Int), .int .u16 (y0 : Int), .int .u16 (y1 : Int), .int .u16 (y2 : Int), .int .u16 (y3 : Int), .int .u16 (y4 : Int), .int .u16 (y5 : Int)]) = W5 at HR5 HA5 HB5 ⊢
  obtain ⟨pc0, pc1, pc2, pc3, pc4, pc5, pc6, pc7, pf0, pf1, pf2, pf3, pf4, pf5, pf6, pf7⟩ := rows8 HA5.out
  obtain ⟨rc0, rc1, rc2, rc3, rc4, rc5, rc6, rc7, rf0, rf1, rf2, rf3, rf4, rf5, rf6, rf7⟩ := rows8 HR5.out
  have hgl5 := HR5.out.lt
  have hgl6 := HA5.out.lt
  go_wp2
  refine bodyPost_ret (parse_res (put8_rows HR5.out rfl x0 x1 y0 y1 y2 y3 y4 y5) _ .nilIface rfl rfl) rfl ?_
  refine ⟨?_, below_put8 HGl.out HB5.out _ _ _ _ _ _ _ _⟩
  rw [HF.out]
  rfl


set_option maxHeartbeats 4000000 in
set_option maxRecDepth 100000 in
theorem parse_g7 (s : ByteArray) (hs : s.size ≤ 10000) (w : World) (hv : V8 w) (k : Nat) (hc : colons8 s.data.toList = some k) (a b : List Nat) (h1 : side8 (s.data.toList.take k) false = some a) (h2 : side8 (s.data.toList.drop (k + 2)) true = some b) (hn : a.length + b.length < 8) (h0 : b.length = 7) : Calls Tryd.prog 10 #[.string s] w (SixPost (some (fill8 a b)) w) := by
  obtain ⟨hs1, hs2⟩ := sides_size s k hs
  have HCut := Lib.hid (fun w hv => pair_yes hc hs w hv)
  have ha8 := (side8_len h1).1
  have hb8 := (side8_len h2).1
  obtain ⟨x0, x1, x2, x3, x4, x5, x6, x7, hp⟩ := eight_of8 (padN_len ha8)
  obtain ⟨y0, y1, y2, y3, y4, y5, y6, y7, hq⟩ := eight_of8 (padN_len hb8)
  have HRd1 := Lib.hid (fun w hv => read_ok (s := btx (s.data.toList.take k)) h1 hp hs1 w hv)
  have HRd2 := Lib.hid (fun w hv => read_ok (s := btx (s.data.toList.drop (k + 2))) h2 hq hs2 w hv)
  generalize btx (s.data.toList.take k) = p at hs1 HCut HRd1
  generalize btx (s.data.toList.drop (k + 2)) = q at hs2 HCut HRd2
  have HPp := Lib.hid hp
  have HQq := Lib.hid hq
  have HFit : Hid (∀ w, Calls Tryd.prog 19 #[.int .i64 ((a.length : Int) + 7), .bool true] w fun e w' => e = .returned (.bool true) ∧ w = w') := fits_any (a.length + 7) true true (by rw [h0] at hn; simp [hn])
  clear hc h1 h2 hp hq hs1 hs2
  have HR0 : Hid (RowU 23 (w.alloc (.cells #[.int .u16 0, .int .u16 0, .int .u16 0, .int .u16 0, .int .u16 0, .int .u16 0, .int .u16 0, .int .u16 0] 23)) w.heap.size zero8) := by
    show RowU _ _ _ _
    exact RowU.new 23 w zero8
  have HB0 : Hid (Below w.heap.size w (w.alloc (.cells #[.int .u16 0, .int .u16 0, .int .u16 0, .int .u16 0, .int .u16 0, .int .u16 0, .int .u16 0, .int .u16 0] 23))) := bel8 _ _
  have HV0 : Hid (V8 (w.alloc (.cells #[.int .u16 0, .int .u16 0, .int .u16 0, .int .u16 0, .int .u16 0, .int .u16 0, .int .u16 0, .int .u16 0] 23))) := hv.below (bel8 _ _)
  clear hv
  go_enter Tryd.func10, Tryd.ntmps10
  go_wp2_with (first
    | (go_at_call 17; (with_reducible refine (HCut.out _ HV0.out).mono ?_); rintro e w1 ⟨rfl, hb⟩; have HB1 := Lib.hid (bnx8 HB0.out hb); have HV1 := Lib.hid (HV0.out.below hb); have HR1 := Lib.hid (HR0.out.below hb); clear hb)
    | (go_at_call 18; (with_reducible refine (HRd2.out _ HV2b.out).mono ?_); rintro e w3 ⟨rfl, hb⟩; have HB3 := Lib.hid (bnx8 HB2b.out hb); have HR3 := Lib.hid (HR2b.out.below hb); have HA3 := Lib.hid (HA2.out.below hb); have HB3b := Lib.hid (bal8 HB3.out (.cells #[.int .u16 (y0 : Int), .int .u16 (y1 : Int), .int .u16 (y2 : Int), .int .u16 (y3 : Int), .int .u16 (y4 : Int), .int .u16 (y5 : Int), .int .u16 (y6 : Int), .int .u16 (y7 : Int)] 23)); have HR3b := Lib.hid (HR3.out.below (bel8 (.cells #[.int .u16 (y0 : Int), .int .u16 (y1 : Int), .int .u16 (y2 : Int), .int .u16 (y3 : Int), .int .u16 (y4 : Int), .int .u16 (y5 : Int), .int .u16 (y6 : Int), .int .u16 (y7 : Int)] 23) w3)); have HA3b := Lib.hid (HA3.out.below (bel8 (.cells #[.int .u16 (y0 : Int), .int .u16 (y1 : Int), .int .u16 (y2 : Int), .int .u16 (y3 : Int), .int .u16 (y4 : Int), .int .u16 (y5 : Int), .int .u16 (y6 : Int), .int .u16 (y7 : Int)] 23) w3)); have HC3 := Lib.hid (RowU.new 23 w3 [y0, y1, y2, y3, y4, y5, y6, y7]); clear hb)
    | (go_at_call 18; (with_reducible refine (HRd1.out _ HV1.out).mono ?_); rintro e w2 ⟨rfl, hb⟩; have HB2 := Lib.hid (bnx8 HB1.out hb); have HV2 := Lib.hid (HV1.out.below hb); have HR2 := Lib.hid (HR1.out.below hb); have HB2b := Lib.hid (bal8 HB2.out (.cells #[.int .u16 (x0 : Int), .int .u16 (x1 : Int), .int .u16 (x2 : Int), .int .u16 (x3 : Int), .int .u16 (x4 : Int), .int .u16 (x5 : Int), .int .u16 (x6 : Int), .int .u16 (x7 : Int)] 23)); have HV2b := Lib.hid (HV2.out.below (bel8 (.cells #[.int .u16 (x0 : Int), .int .u16 (x1 : Int), .int .u16 (x2 : Int), .int .u16 (x3 : Int), .int .u16 (x4 : Int), .int .u16 (x5 : Int), .int .u16 (x6 : Int), .int .u16 (x7 : Int)] 23) w2)); have HR2b := Lib.hid (HR2.out.below (bel8 (.cells #[.int .u16 (x0 : Int), .int .u16 (x1 : Int), .int .u16 (x2 : Int), .int .u16 (x3 : Int), .int .u16 (x4 : Int), .int .u16 (x5 : Int), .int .u16 (x6 : Int), .int .u16 (x7 : Int)] 23) w2)); have HA2 := Lib.hid (RowU.new 23 w2 [x0, x1, x2, x3, x4, x5, x6, x7]); clear hb)
    | (go_at_call 19; (with_reducible refine (HFit.out _).mono ?_); rintro e w9 ⟨rfl, rfl⟩))
  have HC3 : Hid (RowU 23 (w3.alloc (.cells #[.int .u16 (y0 : Int), .int .u16 (y1 : Int), .int .u16 (y2 : Int), .int .u16 (y3 : Int), .int .u16 (y4 : Int), .int .u16 (y5 : Int), .int .u16 (y6 : Int), .int .u16 (y7 : Int)] 23)) w3.heap.size [y0, y1, y2, y3, y4, y5, y6, y7]) := HC3
  have hsz3 : (w3.alloc (.cells #[.int .u16 (y0 : Int), .int .u16 (y1 : Int), .int .u16 (y2 : Int), .int .u16 (y3 : Int), .int .u16 (y4 : Int), .int .u16 (y5 : Int), .int .u16 (y6 : Int), .int .u16 (y7 : Int)] 23)).heap.size = w3.heap.size + 1 := by simp
  have hg01 : w.heap.size < w2.heap.size := HR2.out.lt
  have hg12 : w2.heap.size < w3.heap.size := HA3.out.lt
  clear HB0 HV0 HR0 HB1 HV1 HR1 HB2 HV2 HR2 HB2b HV2b HR2b HA2 HB3 HR3 HA3 HCut HRd1 HRd2 HFit
  obtain ⟨W, hW⟩ : ∃ W, w3.alloc (.cells #[.int .u16 (y0 : Int), .int .u16 (y1 : Int), .int .u16 (y2 : Int), .int .u16 (y3 : Int), .int .u16 (y4 : Int), .int .u16 (y5 : Int), .int .u16 (y6 : Int), .int .u16 (y7 : Int)] 23) = W := ⟨_, rfl⟩
  rw [hW] at HC3 HB3b HR3b HA3b hsz3 ⊢
  obtain ⟨g1, hg1⟩ : ∃ g1, w2.heap.size = g1 := ⟨_, rfl⟩
  obtain ⟨g2, hg2⟩ : ∃ g2, w3.heap.size = g2 := ⟨_, rfl⟩
  obtain ⟨g0, hg0⟩ : ∃ g0, w.heap.size = g0 := ⟨_, rfl⟩
  have HG0 := Lib.hid hg0
  rw [hg1] at HA3b hg01 hg12 ⊢
  rw [hg2] at HC3 hg12 hsz3 ⊢
  rw [hg0] at HR3b hg01 ⊢
  clear hW hg0 hg1 hg2
  have hcp : ∀ (ty : TypeId) (W' : World), W'.heap = W.heap → (Builtin.copy_ #[42, 42] ty #[.slice (some ⟨g1, 1, none⟩) 7 7, .slice (some ⟨g2, 0, none⟩) 7 8]).run Tryd.prog W' = .ok (.int .i64 7) (W'.setRow g1 #[.int .u16 (x0 : Int), .int .u16 (y0 : Int), .int .u16 (y1 : Int), .int .u16 (y2 : Int), .int .u16 (y3 : Int), .int .u16 (y4 : Int), .int .u16 (y5 : Int), .int .u16 (y6 : Int)]) := by
    intro ty W' hh
    have hsrc := run_copy_row (P := Tryd.prog) W' 42 42 ty 22 g1 1 7 7 ⟨g2, 0, none⟩ 7 8 #[.int .u16 (x0 : Int), .int .u16 (x1 : Int), .int .u16 (x2 : Int), .int .u16 (x3 : Int), .int .u16 (x4 : Int), .int .u16 (x5 : Int), .int .u16 (x6 : Int), .int .u16 (x7 : Int)] 23 [.int .u16 (y0 : Int), .int .u16 (y1 : Int), .int .u16 (y2 : Int), .int .u16 (y3 : Int), .int .u16 (y4 : Int), .int .u16 (y5 : Int), .int .u16 (y6 : Int)] Tryd.underlying42 (by kernel_rfl) (HA3b.out.heap hh) rfl (copy_src 7 (HC3.out.heap hh)) (by simp) (by simp [Value.oneCell'])
    exact hsrc
  clear HC3
  have hwr : IntKind.i64.wrap 1 = 1 := by decide
  have hcd := hcp 3 W.drew rfl
  have HGl : Hid (w.heap.size ≤ g0) := Lib.hid (Nat.le_of_eq HG0.out)
  have HR5 : Hid (RowU 23 (W.drew.setRow g1 #[.int .u16 (x0 : Int), .int .u16 (y0 : Int), .int .u16 (y1 : Int), .int .u16 (y2 : Int), .int .u16 (y3 : Int), .int .u16 (y4 : Int), .int .u16 (y5 : Int), .int .u16 (y6 : Int)]) g0 zero8) := by
    show RowU _ _ _ _
    exact (setRow_other _ _ _ _ (by omega)).trans HR3b.out
  have HA5 : Hid (RowU 23 (W.drew.setRow g1 #[.int .u16 (x0 : Int), .int .u16 (y0 : Int), .int .u16 (y1 : Int), .int .u16 (y2 : Int), .int .u16 (y3 : Int), .int .u16 (y4 : Int), .int .u16 (y5 : Int), .int .u16 (y6 : Int)]) g1 [x0, y0, y1, y2, y3, y4, y5, y6]) := by
    show RowU _ _ _ _
    exact setRow_heap _ _ _ _ _ _ (HA3b.out)
  have HB5 : Hid (Below w.heap.size w (W.drew.setRow g1 #[.int .u16 (x0 : Int), .int .u16 (y0 : Int), .int .u16 (y1 : Int), .int .u16 (y2 : Int), .int .u16 (y3 : Int), .int .u16 (y4 : Int), .int .u16 (y5 : Int), .int .u16 (y6 : Int)])) := by
    show Below _ _ _
    exact below_setRow HB3b.out.drew (by have := HG0.out; omega) _
  have HF : Hid (fill8 a b = [x0, y0, y1, y2, y3, y4, y5, y6]) := by
    show fill8 a b = _
    have h := fill_eq (a := a) (b := b) hn
    rw [HPp.out, HQq.out, h0] at h
    exact h
  clear hcp hn
  go_region
  generalize (W.drew.setRow g1 #[.int .u16 (x0 : Int), .int .u16 (y0 : Int), .int .u16 (y1 : Int), .int .u16 (y2 : Int), .int .u16 (y3 : Int), .int .u16 (y4 : Int), .int .u16 (y5 : Int), .int .u16 (y6 : Int)]) = W5 at HR5 HA5 HB5 ⊢
  obtain ⟨pc0, pc1, pc2, pc3, pc4, pc5, pc6, pc7, pf0, pf1, pf2, pf3, pf4, pf5, pf6, pf7⟩ := rows8 HA5.out
  obtain ⟨rc0, rc1, rc2, rc3, rc4, rc5, rc6, rc7, rf0, rf1, rf2, rf3, rf4, rf5, rf6, rf7⟩ := rows8 HR5.out
  have hgl5 := HR5.out.lt
  have hgl6 := HA5.out.lt
  go_wp2
  refine bodyPost_ret (parse_res (put8_rows HR5.out rfl x0 y0 y1 y2 y3 y4 y5 y6) _ .nilIface rfl rfl) rfl ?_
  refine ⟨?_, below_put8 HGl.out HB5.out _ _ _ _ _ _ _ _⟩
  rw [HF.out]
  rfl


set_option maxHeartbeats 4000000 in
set_option maxRecDepth 100000 in
theorem parse_g0 (s : ByteArray) (hs : s.size ≤ 10000) (w : World) (hv : V8 w) (k : Nat) (hc : colons8 s.data.toList = some k) (a b : List Nat) (h1 : side8 (s.data.toList.take k) false = some a) (h2 : side8 (s.data.toList.drop (k + 2)) true = some b) (hn : a.length + b.length < 8) (h0 : b.length = 0) : Calls Tryd.prog 10 #[.string s] w (SixPost (some (fill8 a b)) w) := by
  obtain ⟨hs1, hs2⟩ := sides_size s k hs
  have HCut := Lib.hid (fun w hv => pair_yes hc hs w hv)
  have ha8 := (side8_len h1).1
  have hb8 := (side8_len h2).1
  obtain ⟨x0, x1, x2, x3, x4, x5, x6, x7, hp⟩ := eight_of8 (padN_len ha8)
  obtain ⟨y0, y1, y2, y3, y4, y5, y6, y7, hq⟩ := eight_of8 (padN_len hb8)
  have HRd1 := Lib.hid (fun w hv => read_ok (s := btx (s.data.toList.take k)) h1 hp hs1 w hv)
  have HRd2 := Lib.hid (fun w hv => read_ok (s := btx (s.data.toList.drop (k + 2))) h2 hq hs2 w hv)
  generalize btx (s.data.toList.take k) = p at hs1 HCut HRd1
  generalize btx (s.data.toList.drop (k + 2)) = q at hs2 HCut HRd2
  have HPp := Lib.hid hp
  have HFit : Hid (∀ w, Calls Tryd.prog 19 #[.int .i64 (a.length : Int), .bool true] w fun e w' => e = .returned (.bool true) ∧ w = w') := fits_any a.length true true (by rw [h0] at hn; simp; omega)
  have HB0' : Hid (b = []) := Lib.hid (List.eq_nil_of_length_eq_zero h0)
  clear hc h1 h2 hp hq hs1 hs2
  have HR0 : Hid (RowU 23 (w.alloc (.cells #[.int .u16 0, .int .u16 0, .int .u16 0, .int .u16 0, .int .u16 0, .int .u16 0, .int .u16 0, .int .u16 0] 23)) w.heap.size zero8) := by
    show RowU _ _ _ _
    exact RowU.new 23 w zero8
  have HB0 : Hid (Below w.heap.size w (w.alloc (.cells #[.int .u16 0, .int .u16 0, .int .u16 0, .int .u16 0, .int .u16 0, .int .u16 0, .int .u16 0, .int .u16 0] 23))) := bel8 _ _
  have HV0 : Hid (V8 (w.alloc (.cells #[.int .u16 0, .int .u16 0, .int .u16 0, .int .u16 0, .int .u16 0, .int .u16 0, .int .u16 0, .int .u16 0] 23))) := hv.below (bel8 _ _)
  clear hv
  go_enter Tryd.func10, Tryd.ntmps10
  go_wp2_with (first
    | (go_at_call 17; (with_reducible refine (HCut.out _ HV0.out).mono ?_); rintro e w1 ⟨rfl, hb⟩; have HB1 := Lib.hid (bnx8 HB0.out hb); have HV1 := Lib.hid (HV0.out.below hb); have HR1 := Lib.hid (HR0.out.below hb); clear hb)
    | (go_at_call 18; (with_reducible refine (HRd2.out _ HV2b.out).mono ?_); rintro e w3 ⟨rfl, hb⟩; have HB3 := Lib.hid (bnx8 HB2b.out hb); have HR3 := Lib.hid (HR2b.out.below hb); have HA3 := Lib.hid (HA2.out.below hb); have HB3b := Lib.hid (bal8 HB3.out (.cells #[.int .u16 (y0 : Int), .int .u16 (y1 : Int), .int .u16 (y2 : Int), .int .u16 (y3 : Int), .int .u16 (y4 : Int), .int .u16 (y5 : Int), .int .u16 (y6 : Int), .int .u16 (y7 : Int)] 23)); have HR3b := Lib.hid (HR3.out.below (bel8 (.cells #[.int .u16 (y0 : Int), .int .u16 (y1 : Int), .int .u16 (y2 : Int), .int .u16 (y3 : Int), .int .u16 (y4 : Int), .int .u16 (y5 : Int), .int .u16 (y6 : Int), .int .u16 (y7 : Int)] 23) w3)); have HA3b := Lib.hid (HA3.out.below (bel8 (.cells #[.int .u16 (y0 : Int), .int .u16 (y1 : Int), .int .u16 (y2 : Int), .int .u16 (y3 : Int), .int .u16 (y4 : Int), .int .u16 (y5 : Int), .int .u16 (y6 : Int), .int .u16 (y7 : Int)] 23) w3)); have HC3 := Lib.hid (RowU.new 23 w3 [y0, y1, y2, y3, y4, y5, y6, y7]); clear hb)
    | (go_at_call 18; (with_reducible refine (HRd1.out _ HV1.out).mono ?_); rintro e w2 ⟨rfl, hb⟩; have HB2 := Lib.hid (bnx8 HB1.out hb); have HV2 := Lib.hid (HV1.out.below hb); have HR2 := Lib.hid (HR1.out.below hb); have HB2b := Lib.hid (bal8 HB2.out (.cells #[.int .u16 (x0 : Int), .int .u16 (x1 : Int), .int .u16 (x2 : Int), .int .u16 (x3 : Int), .int .u16 (x4 : Int), .int .u16 (x5 : Int), .int .u16 (x6 : Int), .int .u16 (x7 : Int)] 23)); have HV2b := Lib.hid (HV2.out.below (bel8 (.cells #[.int .u16 (x0 : Int), .int .u16 (x1 : Int), .int .u16 (x2 : Int), .int .u16 (x3 : Int), .int .u16 (x4 : Int), .int .u16 (x5 : Int), .int .u16 (x6 : Int), .int .u16 (x7 : Int)] 23) w2)); have HR2b := Lib.hid (HR2.out.below (bel8 (.cells #[.int .u16 (x0 : Int), .int .u16 (x1 : Int), .int .u16 (x2 : Int), .int .u16 (x3 : Int), .int .u16 (x4 : Int), .int .u16 (x5 : Int), .int .u16 (x6 : Int), .int .u16 (x7 : Int)] 23) w2)); have HA2 := Lib.hid (RowU.new 23 w2 [x0, x1, x2, x3, x4, x5, x6, x7]); clear hb)
    | (go_at_call 19; (with_reducible refine (HFit.out _).mono ?_); rintro e w9 ⟨rfl, rfl⟩))
  have HC3 : Hid (RowU 23 (w3.alloc (.cells #[.int .u16 (y0 : Int), .int .u16 (y1 : Int), .int .u16 (y2 : Int), .int .u16 (y3 : Int), .int .u16 (y4 : Int), .int .u16 (y5 : Int), .int .u16 (y6 : Int), .int .u16 (y7 : Int)] 23)) w3.heap.size [y0, y1, y2, y3, y4, y5, y6, y7]) := HC3
  have hsz3 : (w3.alloc (.cells #[.int .u16 (y0 : Int), .int .u16 (y1 : Int), .int .u16 (y2 : Int), .int .u16 (y3 : Int), .int .u16 (y4 : Int), .int .u16 (y5 : Int), .int .u16 (y6 : Int), .int .u16 (y7 : Int)] 23)).heap.size = w3.heap.size + 1 := by simp
  have hg01 : w.heap.size < w2.heap.size := HR2.out.lt
  have hg12 : w2.heap.size < w3.heap.size := HA3.out.lt
  clear HB0 HV0 HR0 HB1 HV1 HR1 HB2 HV2 HR2 HB2b HV2b HR2b HA2 HB3 HR3 HA3 HCut HRd1 HRd2 HFit
  obtain ⟨W, hW⟩ : ∃ W, w3.alloc (.cells #[.int .u16 (y0 : Int), .int .u16 (y1 : Int), .int .u16 (y2 : Int), .int .u16 (y3 : Int), .int .u16 (y4 : Int), .int .u16 (y5 : Int), .int .u16 (y6 : Int), .int .u16 (y7 : Int)] 23) = W := ⟨_, rfl⟩
  rw [hW] at HC3 HB3b HR3b HA3b hsz3 ⊢
  obtain ⟨g1, hg1⟩ : ∃ g1, w2.heap.size = g1 := ⟨_, rfl⟩
  obtain ⟨g2, hg2⟩ : ∃ g2, w3.heap.size = g2 := ⟨_, rfl⟩
  obtain ⟨g0, hg0⟩ : ∃ g0, w.heap.size = g0 := ⟨_, rfl⟩
  have HG0 := Lib.hid hg0
  rw [hg1] at HA3b hg01 hg12 ⊢
  rw [hg2] at HC3 hg12 hsz3 ⊢
  rw [hg0] at HR3b hg01 ⊢
  clear hW hg0 hg1 hg2
  have hcd : (Builtin.copy_ #[42, 42] 3 #[.slice (some ⟨g1, 0, none⟩) 0 0, .slice (some ⟨g2, 0, none⟩) 0 8]).run Tryd.prog W.drew = .ok (.int .i64 0) W.drew := run_copy_none (P := Tryd.prog) W.drew 42 42 3 22 _ _ _ _ _ _ Tryd.underlying42 (by kernel_rfl) rfl
  have HGl : Hid (w.heap.size ≤ g0) := Lib.hid (Nat.le_of_eq HG0.out)
  have HR5 : Hid (RowU 23 W.drew g0 zero8) := by
    show RowU _ _ _ _
    exact HR3b.out
  have HA5 : Hid (RowU 23 W.drew g1 [x0, x1, x2, x3, x4, x5, x6, x7]) := by
    show RowU _ _ _ _
    exact HA3b.out
  have HB5 : Hid (Below w.heap.size w W.drew) := by
    show Below _ _ _
    exact HB3b.out.drew
  have HF : Hid (fill8 a b = [x0, x1, x2, x3, x4, x5, x6, x7]) := by
    show fill8 a b = _
    rw [← HPp.out]
    rw [HB0'.out]; simp [fill8, padN]
  have hwr : IntKind.i64.wrap 8 = 8 := by decide
  go_region
  generalize W.drew = W5 at HR5 HA5 HB5 ⊢
  obtain ⟨pc0, pc1, pc2, pc3, pc4, pc5, pc6, pc7, pf0, pf1, pf2, pf3, pf4, pf5, pf6, pf7⟩ := rows8 HA5.out
  obtain ⟨rc0, rc1, rc2, rc3, rc4, rc5, rc6, rc7, rf0, rf1, rf2, rf3, rf4, rf5, rf6, rf7⟩ := rows8 HR5.out
  have hgl5 := HR5.out.lt
  have hgl6 := HA5.out.lt
  go_wp2
  refine bodyPost_ret (parse_res (put8_rows HR5.out rfl x0 x1 x2 x3 x4 x5 x6 x7) _ .nilIface rfl rfl) rfl ?_
  refine ⟨?_, below_put8 HGl.out HB5.out _ _ _ _ _ _ _ _⟩
  rw [HF.out]
  rfl


set_option maxHeartbeats 4000000 in
set_option maxRecDepth 100000 in
theorem parse_n8 (s : ByteArray) (hs : s.size ≤ 10000) (w : World) (hv : V8 w) (hc : colons8 s.data.toList = none) (l : List Nat) (h1 : side8 s.data.toList true = some l) (h8 : l.length = 8) : Calls Tryd.prog 10 #[.string s] w (SixPost (some l) w) := by
  obtain ⟨x0, x1, x2, x3, x4, x5, x6, x7, hp⟩ := eight_of8 (padN_len (N := 8) (Nat.le_of_eq h8))
  have HCut := Lib.hid (fun w hv => pair_no hc hs w hv)
  have HRd1 := Lib.hid (fun w hv => read_ok h1 hp hs w hv)
  have HRd2 := Lib.hid (fun w hv => read_ok (s := ⟨#[]⟩) (side8_nil true) (hp := rfl) (by decide) w hv)
  have HFit : Hid (∀ w, Calls Tryd.prog 19 #[.int .i64 8, .bool false] w fun e w' => e = .returned (.bool true) ∧ w = w') := fits_any 8 false true (by decide)
  have HPp := Lib.hid hp
  have H8 := Lib.hid h8
  clear hc h1 hp
  have HR0 : Hid (RowU 23 (w.alloc (.cells #[.int .u16 0, .int .u16 0, .int .u16 0, .int .u16 0, .int .u16 0, .int .u16 0, .int .u16 0, .int .u16 0] 23)) w.heap.size zero8) := by
    show RowU _ _ _ _
    exact RowU.new 23 w zero8
  have HB0 : Hid (Below w.heap.size w (w.alloc (.cells #[.int .u16 0, .int .u16 0, .int .u16 0, .int .u16 0, .int .u16 0, .int .u16 0, .int .u16 0, .int .u16 0] 23))) := bel8 _ _
  have HV0 : Hid (V8 (w.alloc (.cells #[.int .u16 0, .int .u16 0, .int .u16 0, .int .u16 0, .int .u16 0, .int .u16 0, .int .u16 0, .int .u16 0] 23))) := hv.below (bel8 _ _)
  clear hv
  go_enter Tryd.func10, Tryd.ntmps10
  go_wp2_with (first
    | (go_at_call 17; (with_reducible refine (HCut.out _ HV0.out).mono ?_); rintro e w1 ⟨rfl, hb⟩; have HB1 := Lib.hid (bnx8 HB0.out hb); have HV1 := Lib.hid (HV0.out.below hb); have HR1 := Lib.hid (HR0.out.below hb); clear hb)
    | (go_at_call 18; (with_reducible refine (HRd2.out _ HV2b.out).mono ?_); rintro e w3 ⟨rfl, hb⟩; have HB3 := Lib.hid (bnx8 HB2b.out hb); have HR3 := Lib.hid (HR2b.out.below hb); have HA3 := Lib.hid (HA2.out.below hb); have HB3b := Lib.hid (bal8 HB3.out (.cells #[.int .u16 0, .int .u16 0, .int .u16 0, .int .u16 0, .int .u16 0, .int .u16 0, .int .u16 0, .int .u16 0] 23)); have HR3b := Lib.hid (HR3.out.below (bel8 (.cells #[.int .u16 0, .int .u16 0, .int .u16 0, .int .u16 0, .int .u16 0, .int .u16 0, .int .u16 0, .int .u16 0] 23) w3)); have HA3b := Lib.hid (HA3.out.below (bel8 (.cells #[.int .u16 0, .int .u16 0, .int .u16 0, .int .u16 0, .int .u16 0, .int .u16 0, .int .u16 0, .int .u16 0] 23) w3)); have HC3 := Lib.hid (RowU.new 23 w3 zero8); clear hb)
    | (go_at_call 18; (with_reducible refine (HRd1.out _ HV1.out).mono ?_); rintro e w2 ⟨rfl, hb⟩; have HB2 := Lib.hid (bnx8 HB1.out hb); have HV2 := Lib.hid (HV1.out.below hb); have HR2 := Lib.hid (HR1.out.below hb); have HB2b := Lib.hid (bal8 HB2.out (.cells #[.int .u16 (x0 : Int), .int .u16 (x1 : Int), .int .u16 (x2 : Int), .int .u16 (x3 : Int), .int .u16 (x4 : Int), .int .u16 (x5 : Int), .int .u16 (x6 : Int), .int .u16 (x7 : Int)] 23)); have HV2b := Lib.hid (HV2.out.below (bel8 (.cells #[.int .u16 (x0 : Int), .int .u16 (x1 : Int), .int .u16 (x2 : Int), .int .u16 (x3 : Int), .int .u16 (x4 : Int), .int .u16 (x5 : Int), .int .u16 (x6 : Int), .int .u16 (x7 : Int)] 23) w2)); have HR2b := Lib.hid (HR2.out.below (bel8 (.cells #[.int .u16 (x0 : Int), .int .u16 (x1 : Int), .int .u16 (x2 : Int), .int .u16 (x3 : Int), .int .u16 (x4 : Int), .int .u16 (x5 : Int), .int .u16 (x6 : Int), .int .u16 (x7 : Int)] 23) w2)); have HA2 := Lib.hid (RowU.new 23 w2 [x0, x1, x2, x3, x4, x5, x6, x7]); clear hb)
    | (go_at_call 19; (with_reducible refine (HFit.out _).mono ?_); rintro e w9 ⟨rfl, rfl⟩))
  have HC3 : Hid (RowU 23 (w3.alloc (.cells #[.int .u16 0, .int .u16 0, .int .u16 0, .int .u16 0, .int .u16 0, .int .u16 0, .int .u16 0, .int .u16 0] 23)) w3.heap.size zero8) := HC3
  have hsz3 : (w3.alloc (.cells #[.int .u16 0, .int .u16 0, .int .u16 0, .int .u16 0, .int .u16 0, .int .u16 0, .int .u16 0, .int .u16 0] 23)).heap.size = w3.heap.size + 1 := by simp
  have hg01 : w.heap.size < w2.heap.size := HR2.out.lt
  have hg12 : w2.heap.size < w3.heap.size := HA3.out.lt
  clear HB0 HV0 HR0 HB1 HV1 HR1 HB2 HV2 HR2 HB2b HV2b HR2b HA2 HB3 HR3 HA3 HCut HRd1 HRd2 HFit
  obtain ⟨W, hW⟩ : ∃ W, w3.alloc (.cells #[.int .u16 0, .int .u16 0, .int .u16 0, .int .u16 0, .int .u16 0, .int .u16 0, .int .u16 0, .int .u16 0] 23) = W := ⟨_, rfl⟩
  rw [hW] at HC3 HB3b HR3b HA3b hsz3 ⊢
  obtain ⟨g1, hg1⟩ : ∃ g1, w2.heap.size = g1 := ⟨_, rfl⟩
  obtain ⟨g2, hg2⟩ : ∃ g2, w3.heap.size = g2 := ⟨_, rfl⟩
  obtain ⟨g0, hg0⟩ : ∃ g0, w.heap.size = g0 := ⟨_, rfl⟩
  have HG0 := Lib.hid hg0
  rw [hg1] at HA3b hg01 hg12 ⊢
  rw [hg2] at HC3 hg12 hsz3 ⊢
  rw [hg0] at HR3b hg01 ⊢
  clear hW hg0 hg1 hg2
  have hcd : (Builtin.copy_ #[42, 42] 3 #[.slice (some ⟨g1, 0, none⟩) 0 0, .slice (some ⟨g2, 0, none⟩) 0 8]).run Tryd.prog W.drew = .ok (.int .i64 0) W.drew := run_copy_none (P := Tryd.prog) W.drew 42 42 3 22 _ _ _ _ _ _ Tryd.underlying42 (by kernel_rfl) rfl
  have HGl : Hid (w.heap.size ≤ g0) := Lib.hid (Nat.le_of_eq HG0.out)
  have HR5 : Hid (RowU 23 W.drew g0 zero8) := by
    show RowU _ _ _ _
    exact HR3b.out
  have HA5 : Hid (RowU 23 W.drew g1 [x0, x1, x2, x3, x4, x5, x6, x7]) := by
    show RowU _ _ _ _
    exact HA3b.out
  have HB5 : Hid (Below w.heap.size w W.drew) := by
    show Below _ _ _
    exact HB3b.out.drew
  have HF : Hid (l = [x0, x1, x2, x3, x4, x5, x6, x7]) := by
    show l = _
    rw [← HPp.out]
    simp [padN, H8.out]
  have hwr : IntKind.i64.wrap 8 = 8 := by decide
  go_region
  generalize W.drew = W5 at HR5 HA5 HB5 ⊢
  obtain ⟨pc0, pc1, pc2, pc3, pc4, pc5, pc6, pc7, pf0, pf1, pf2, pf3, pf4, pf5, pf6, pf7⟩ := rows8 HA5.out
  obtain ⟨rc0, rc1, rc2, rc3, rc4, rc5, rc6, rc7, rf0, rf1, rf2, rf3, rf4, rf5, rf6, rf7⟩ := rows8 HR5.out
  have hgl5 := HR5.out.lt
  have hgl6 := HA5.out.lt
  go_wp2
  refine bodyPost_ret (parse_res (put8_rows HR5.out rfl x0 x1 x2 x3 x4 x5 x6 x7) _ .nilIface rfl rfl) rfl ?_
  refine ⟨?_, below_put8 HGl.out HB5.out _ _ _ _ _ _ _ _⟩
  rw [HF.out]
  rfl


/-- Parse. -/
theorem sixparse_any (s : ByteArray) (hs : s.size ≤ 10000) (w : World) (hv : V8 w) : Calls Tryd.prog 10 #[.string s] w (SixPost (parse8 s.data.toList) w) := by
  rw [parse8_sides]
  cases hc : colons8 s.data.toList with
  | none =>
    simp only []
    cases h1 : side8 s.data.toList true with
    | none => exact parse_e1 s hs w hv hc h1
    | some l =>
      simp only []
      by_cases h8 : l.length = 8
      · rw [if_pos h8]; exact parse_n8 s hs w hv hc l h1 h8
      · rw [if_neg h8]; exact parse_e2 s hs w hv hc l h1 h8
  | some k =>
    simp only []
    cases h1 : side8 (s.data.toList.take k) false with
    | none =>
      cases h2 : side8 (s.data.toList.drop (k + 2)) true with
      | none => exact parse_e4 s hs w hv k hc h1 h2
      | some b => exact parse_e3 s hs w hv k hc h1 b h2
    | some a =>
      cases h2 : side8 (s.data.toList.drop (k + 2)) true with
      | none => exact parse_e5 s hs w hv k hc a h1 h2
      | some b =>
        simp only []
        by_cases hn : a.length + b.length < 8
        · rw [if_pos hn]
          rcases (show b.length = 0 ∨ b.length = 1 ∨ b.length = 2 ∨ b.length = 3 ∨ b.length = 4 ∨ b.length = 5 ∨ b.length = 6 ∨ b.length = 7 by omega) with h | h | h | h | h | h | h | h
          · exact parse_g0 s hs w hv k hc a b h1 h2 hn h
          · exact parse_g1 s hs w hv k hc a b h1 h2 hn h
          · exact parse_g2 s hs w hv k hc a b h1 h2 hn h
          · exact parse_g3 s hs w hv k hc a b h1 h2 hn h
          · exact parse_g4 s hs w hv k hc a b h1 h2 hn h
          · exact parse_g5 s hs w hv k hc a b h1 h2 hn h
          · exact parse_g6 s hs w hv k hc a b h1 h2 hn h
          · exact parse_g7 s hs w hv k hc a b h1 h2 hn h
        · rw [if_neg hn]; exact parse_e6 s hs w hv k hc a b h1 h2 hn
end Go.Proofs.YtfodkkdggajjaaaDoor

/-
  The library's FormatUint at base 16, for numbers of 16 bits, by its contract.
-/
namespace Go.Proofs.YtfodkkdggajjaaaDoor
open Go.RowKit

theorem ispow16 (w : World) : Calls Tryd.prog 55 #[.int .i64 16] w fun e w' => e = .returned (.bool true) ∧ w = w' := by
  have h : bits .and .i64 16 15 = 0 := by decide
  go_enter Tryd.func55, Tryd.ntmps55
  go_wp2
  go_ret
  exact ⟨rfl, rfl⟩
theorem tz16 (w : World) (hv : V8 w) : Calls Tryd.prog 56 #[.int .u64 16] w fun e w' => e = .returned (.int .i64 4) ∧ w = w' := by
  refine (Any7.bits_TrailingZeros lays27 16 (by decide) w (fun _ => hv.tz)).mono ?_
  rintro e w' ⟨rfl, rfl⟩
  refine ⟨?_, rfl⟩
  have : Lib.ctz 64 16 = 4 := by decide
  rw [this]
  rfl
theorem and15 (n : Nat) (h : n < 65536) : bits .and .u64 (n : Int) 15 = ((n % 16 : Nat) : Int) := by
  have e := bits_and_u64_nat n 15 (by omega) (by omega)
  have e2 : ((15 : Nat) : Int) = 15 := rfl
  rw [e2] at e
  rw [e, Nat.and_two_pow_sub_one_eq_mod n 4]

/-- A block of 65 bytes that ends with some. -/
def RowB (w : World) (g : Nat) (bs : List UInt8) : Prop := w.heap[g]? = some (.cells (List.replicate (65 - bs.length) (Value.int .u8 0) ++ bs.map fun b => Value.int .u8 (b.toNat : Int)).toArray 106 (0, 0))
theorem RowB.lt {w : World} {g : Nat} {bs : List UInt8} (h : RowB w g bs) : g < w.heap.size := (Array.getElem?_eq_some_iff.1 h).1
theorem RowB.free {w : World} {g : Nat} {bs : List UInt8} (h : RowB w g bs) {j : Nat} (hj : j + bs.length < 65) : w.cell? ⟨g, j, none⟩ = some (.int .u8 0) ∧ w.frozen? ⟨g, j, none⟩ = false := by
  unfold RowB at h
  constructor
  · simp only [World.cell?, h]
    rw [List.getElem?_toArray, List.getElem?_append_left (by simp; omega), List.getElem?_eq_getElem (by simp; omega), List.getElem_replicate]
    rfl
  · simp [World.frozen?, h]
theorem RowB.put {w : World} {g : Nat} {bs : List UInt8} (h : RowB w g bs) {j : Nat} (hj : j + bs.length + 1 = 65) (b : UInt8) : RowB (w.setCell ⟨g, j, none⟩ (.int .u8 (b.toNat : Int))) g (b :: bs) := by
  unfold RowB
  rw [heap_setCell_same w g j _ _ _ h]
  congr 2
  apply Array.toList_inj.1
  simp only [Array.toList_setIfInBounds]
  rw [List.set_append_left _ _ (by simp; omega)]
  have e1 : 65 - bs.length = j + 1 := by omega
  have e2 : 65 - (b :: bs).length = j := by simp; omega
  rw [e1, e2, List.map_cons]
  have : (List.replicate (j + 1) (Value.int .u8 0)).set j (.int .u8 (b.toNat : Int)) = List.replicate j (Value.int .u8 0) ++ [.int .u8 (b.toNat : Int)] := by
    rw [List.replicate_succ', List.set_append_right _ _ (by simp)]
    simp
  rw [this, List.append_assoc]
  rfl
theorem RowB.bytes {w : World} {g : Nat} {bs : List UInt8} (h : RowB w g bs) {m : Nat} (hm : m + bs.length = 65) : ∀ j (hj : j < bs.length), w.cell? ((⟨g, m, none⟩ : Addr).add j) = some (.int .u8 ((bs[j]'hj).toNat : Int)) := by
  intro j hj
  have e : w.cell? ((⟨g, m, none⟩ : Addr).add j) = w.cell? ⟨g, m + j, none⟩ := by
    simp only [Addr.add]
    split
    · rename_i h0; rw [h0]; rfl
    · rfl
  rw [e]
  unfold RowB at h
  simp only [World.cell?, h]
  rw [List.getElem?_toArray, List.getElem?_append_right (by simp; omega)]
  simp only [List.length_replicate]
  rw [show m + j - (65 - bs.length) = j by omega, List.getElem?_map, List.getElem?_eq_getElem hj]
  rfl
theorem hex8_big {n : Nat} (h : 16 ≤ n) : hex8 n = hex8 (n / 16) ++ [hexd (n % 16)] := by
  rw [hex8, if_neg (by omega)]
theorem hex8_low {n : Nat} (h : n < 16) : hex8 n = [hexd n] := by
  rw [hex8, if_pos h]
/-- The figures that the library has. -/
def digs36 : ByteArray := ⟨#[48, 49, 50, 51, 52, 53, 54, 55, 56, 57, 97, 98, 99, 100, 101, 102, 103, 104, 105, 106, 107, 108, 109, 110, 111, 112, 113, 114, 115, 116, 117, 118, 119, 120, 121, 122]⟩
theorem digs36_size : digs36.size = 36 := by decide +kernel
theorem digs36_at : ∀ k : Fin 16, digs36.data.toList[k.val]? = some (hexd k.val) := by decide +kernel
theorem digs36_get (k : Nat) (h : k < digs36.size) (hk : k < 16) : digs36[k]'h = hexd k := by
  have e := digs36_at ⟨k, hk⟩
  rw [List.getElem?_eq_getElem (by simpa using h)] at e
  exact Option.some.inj e
set_option maxHeartbeats 4000000 in
set_option maxRecDepth 100000 in
theorem fmt_any (n : Nat) (hn : n < 65536) (w : World) (hv : V8 w) :
    Calls Tryd.prog 42 #[.slice none 0 0, .int .u64 (n : Int), .int .i64 16, .bool false, .bool false] w fun e w' => e = .returned (.tuple #[.slice none 0 0, .string (btx (hex8 n))]) ∧ Below w.heap.size w w' := by
  have HV := Lib.hid hv
  clear hv
  go_enter Tryd.func42, Tryd.ntmps42
  go_wp2_with (first
    | (go_at_call 55; refine (ispow16 _).mono ?_; rintro e w1 ⟨rfl, rfl⟩)
    | (go_at_call 56; refine (tz16 _ (HV.out.below ((Below.refl _ _).alloc (Nat.le_refl _) _))).mono ?_; rintro e w1 ⟨rfl, rfl⟩))
  have HR0 : Hid (RowB (w.alloc (.cells Tryd.zeroCells106 106)) w.heap.size []) := by
    show RowB _ _ _
    exact heap_alloc_new w _
  have HB0 : Hid (Below w.heap.size w (w.alloc (.cells Tryd.zeroCells106 106))) := by
    show Below _ _ _
    exact (Below.refl _ _).alloc (Nat.le_refl _) _
  generalize (w.alloc (.cells Tryd.zeroCells106 106)) = W at HR0 HB0 ⊢
  obtain ⟨g, hg⟩ : ∃ g, w.heap.size = g := ⟨_, rfl⟩
  rw [hg] at HR0 ⊢
  have HG := Lib.hid hg
  have HL := Lib.hid (hex8_four hn)
  clear hg
  go_loopw [1, 13] (fun u i wr => ∃ (v : Nat) (bs : List UInt8) (m : Nat), u = .int .u64 (v : Int) ∧ i = .int .i64 (m : Int) ∧ m + bs.length = 65 ∧ v < 65536 ∧ Hid (hex8 n = hex8 v ++ bs) ∧ RowB wr g bs ∧ Below w.heap.size w wr) (fun u _ _ => (intOf u).toNat)
  case atStart => exact ⟨n, [], 65, rfl, rfl, rfl, hn, Lib.hid (by rw [List.append_nil]), HR0.out, HB0.out⟩
  case round =>
    obtain ⟨v, bs, m, rfl, rfl, hm, hv, HX, hrow, hbw⟩ := hrel
    have hgl := hrow.lt
    have HRw := Lib.hid hrow
    have HBw := Lib.hid hbw
    clear hrow hbw
    have hlen : (hex8 v).length + bs.length ≤ 4 := by
      have h := HL.out.2
      rw [HX.out, List.length_append] at h
      exact h
    have hlv := (hex8_four hv).1
    by_cases h16 : 16 ≤ v
    · have hm62 : 62 ≤ m := by
        have := (hex8_four (show v / 16 < 65536 by omega)).1
        rw [hex8_big h16, List.length_append, List.length_singleton] at hlen
        omega
      have hand := and15 v hv
      have HDg := Lib.hid (digs36_at ⟨v % 16, by omega⟩)
      obtain ⟨hcell, hfz⟩ := HRw.out.free (j := m - 1) (by omega)
      have hd16 : v % 16 < 16 := by omega
      have hm1 : ((m : Int) - 1).toNat = m - 1 := by omega
      clear hlen hlv
      have HDd : Hid (digs36[v % 16]'(by rw [digs36_size]; omega) = hexd (v % 16)) := Lib.hid (digs36_get _ _ hd16)
      go_wp2
      go_roundw
      case rel => exact ⟨v / 16, (digs36[v % 16]'(by rw [digs36_size]; omega)) :: bs, m - 1, congrArg (Value.int .u64) (by omega), congrArg (Value.int .i64) (by omega), by rw [List.length_cons]; omega, by omega, Lib.hid (by rw [HX.out, hex8_big h16, HDd.out, List.append_assoc]; rfl), HRw.out.put (by omega) _, HBw.out.setCell (Nat.le_of_eq HG.out) _⟩
      case measure => simp [intOf]; omega
    · have hv16 : v < 16 := by omega
      have HDd : Hid (digs36[v]'(by rw [digs36_size]; omega) = hexd v) := Lib.hid (digs36_get _ _ hv16)
      have hlow := hex8_low hv16
      have HX2 : Hid (hex8 n = (digs36[v]'(by rw [digs36_size]; omega)) :: bs) := by
        show hex8 n = _
        rw [HX.out, hlow, HDd.out]
        rfl
      have hbl : bs.length ≤ 3 := by
        rw [hlow, List.length_singleton] at hlen
        omega
      clear hlen hlv hlow HDd
      have hsh : (bs = [] ∧ m = 65) ∨ (∃ b1, bs = [b1] ∧ m = 64) ∨ (∃ b1 b2, bs = [b1, b2] ∧ m = 63) ∨ (∃ b1 b2 b3, bs = [b1, b2, b3] ∧ m = 62) := by
        match bs, hbl, hm with
        | [], _, hm => exact .inl ⟨rfl, by simpa using hm⟩
        | [b1], _, hm => exact .inr (.inl ⟨b1, rfl, by simp at hm; omega⟩)
        | [b1, b2], _, hm => exact .inr (.inr (.inl ⟨b1, b2, rfl, by simp at hm; omega⟩))
        | [b1, b2, b3], _, hm => exact .inr (.inr (.inr ⟨b1, b2, b3, rfl, by simp at hm; omega⟩))
      rcases hsh with ⟨rfl, rfl⟩ | ⟨b1, rfl, rfl⟩ | ⟨b1, b2, rfl, rfl⟩ | ⟨b1, b2, b3, rfl, rfl⟩
      · obtain ⟨hcell, hfz⟩ := HRw.out.free (j := 64) (by simp)
        have HR2 := Lib.hid (HRw.out.put (j := 64) rfl ((⟨#[48, 49, 50, 51, 52, 53, 54, 55, 56, 57, 97, 98, 99, 100, 101, 102, 103, 104, 105, 106, 107, 108, 109, 110, 111, 112, 113, 114, 115, 116, 117, 118, 119, 120, 121, 122]⟩ : ByteArray)[v]'(by rw [show (⟨#[48, 49, 50, 51, 52, 53, 54, 55, 56, 57, 97, 98, 99, 100, 101, 102, 103, 104, 105, 106, 107, 108, 109, 110, 111, 112, 113, 114, 115, 116, 117, 118, 119, 120, 121, 122]⟩ : ByteArray) = digs36 from rfl, digs36_size]; omega)))
        have hcv : (convert 54 9 (.slice (some ⟨g, 64, none⟩) 1 1)).run Tryd.prog (wr.setCell ⟨g, 64, none⟩ (.int .u8 (((⟨#[48, 49, 50, 51, 52, 53, 54, 55, 56, 57, 97, 98, 99, 100, 101, 102, 103, 104, 105, 106, 107, 108, 109, 110, 111, 112, 113, 114, 115, 116, 117, 118, 119, 120, 121, 122]⟩ : ByteArray)[v]'(by rw [show (⟨#[48, 49, 50, 51, 52, 53, 54, 55, 56, 57, 97, 98, 99, 100, 101, 102, 103, 104, 105, 106, 107, 108, 109, 110, 111, 112, 113, 114, 115, 116, 117, 118, 119, 120, 121, 122]⟩ : ByteArray) = digs36 from rfl, digs36_size]; omega)).toNat : Int))) = .ok (.string (btx (((⟨#[48, 49, 50, 51, 52, 53, 54, 55, 56, 57, 97, 98, 99, 100, 101, 102, 103, 104, 105, 106, 107, 108, 109, 110, 111, 112, 113, 114, 115, 116, 117, 118, 119, 120, 121, 122]⟩ : ByteArray)[v]'(by rw [show (⟨#[48, 49, 50, 51, 52, 53, 54, 55, 56, 57, 97, 98, 99, 100, 101, 102, 103, 104, 105, 106, 107, 108, 109, 110, 111, 112, 113, 114, 115, 116, 117, 118, 119, 120, 121, 122]⟩ : ByteArray) = digs36 from rfl, digs36_size]; omega)) :: []))) (wr.setCell ⟨g, 64, none⟩ (.int .u8 (((⟨#[48, 49, 50, 51, 52, 53, 54, 55, 56, 57, 97, 98, 99, 100, 101, 102, 103, 104, 105, 106, 107, 108, 109, 110, 111, 112, 113, 114, 115, 116, 117, 118, 119, 120, 121, 122]⟩ : ByteArray)[v]'(by rw [show (⟨#[48, 49, 50, 51, 52, 53, 54, 55, 56, 57, 97, 98, 99, 100, 101, 102, 103, 104, 105, 106, 107, 108, 109, 110, 111, 112, 113, 114, 115, 116, 117, 118, 119, 120, 121, 122]⟩ : ByteArray) = digs36 from rfl, digs36_size]; omega)).toNat : Int))) :=
          run_convert_bytes_back _ 54 9 5 ⟨g, 64, none⟩ 1 (_ :: []) Tryd.underlying54 Tryd.underlying5 Tryd.underlying9 (HR2.out.bytes rfl)
        clear HR2
        go_wp2
        go_ret2
        exact ⟨by rw [HX2.out]; rfl, HBw.out.setCell (Nat.le_of_eq HG.out) _⟩
      · obtain ⟨hcell, hfz⟩ := HRw.out.free (j := 63) (by simp)
        have HR2 := Lib.hid (HRw.out.put (j := 63) rfl ((⟨#[48, 49, 50, 51, 52, 53, 54, 55, 56, 57, 97, 98, 99, 100, 101, 102, 103, 104, 105, 106, 107, 108, 109, 110, 111, 112, 113, 114, 115, 116, 117, 118, 119, 120, 121, 122]⟩ : ByteArray)[v]'(by rw [show (⟨#[48, 49, 50, 51, 52, 53, 54, 55, 56, 57, 97, 98, 99, 100, 101, 102, 103, 104, 105, 106, 107, 108, 109, 110, 111, 112, 113, 114, 115, 116, 117, 118, 119, 120, 121, 122]⟩ : ByteArray) = digs36 from rfl, digs36_size]; omega)))
        have hcv : (convert 54 9 (.slice (some ⟨g, 63, none⟩) 2 2)).run Tryd.prog (wr.setCell ⟨g, 63, none⟩ (.int .u8 (((⟨#[48, 49, 50, 51, 52, 53, 54, 55, 56, 57, 97, 98, 99, 100, 101, 102, 103, 104, 105, 106, 107, 108, 109, 110, 111, 112, 113, 114, 115, 116, 117, 118, 119, 120, 121, 122]⟩ : ByteArray)[v]'(by rw [show (⟨#[48, 49, 50, 51, 52, 53, 54, 55, 56, 57, 97, 98, 99, 100, 101, 102, 103, 104, 105, 106, 107, 108, 109, 110, 111, 112, 113, 114, 115, 116, 117, 118, 119, 120, 121, 122]⟩ : ByteArray) = digs36 from rfl, digs36_size]; omega)).toNat : Int))) = .ok (.string (btx (((⟨#[48, 49, 50, 51, 52, 53, 54, 55, 56, 57, 97, 98, 99, 100, 101, 102, 103, 104, 105, 106, 107, 108, 109, 110, 111, 112, 113, 114, 115, 116, 117, 118, 119, 120, 121, 122]⟩ : ByteArray)[v]'(by rw [show (⟨#[48, 49, 50, 51, 52, 53, 54, 55, 56, 57, 97, 98, 99, 100, 101, 102, 103, 104, 105, 106, 107, 108, 109, 110, 111, 112, 113, 114, 115, 116, 117, 118, 119, 120, 121, 122]⟩ : ByteArray) = digs36 from rfl, digs36_size]; omega)) :: [b1]))) (wr.setCell ⟨g, 63, none⟩ (.int .u8 (((⟨#[48, 49, 50, 51, 52, 53, 54, 55, 56, 57, 97, 98, 99, 100, 101, 102, 103, 104, 105, 106, 107, 108, 109, 110, 111, 112, 113, 114, 115, 116, 117, 118, 119, 120, 121, 122]⟩ : ByteArray)[v]'(by rw [show (⟨#[48, 49, 50, 51, 52, 53, 54, 55, 56, 57, 97, 98, 99, 100, 101, 102, 103, 104, 105, 106, 107, 108, 109, 110, 111, 112, 113, 114, 115, 116, 117, 118, 119, 120, 121, 122]⟩ : ByteArray) = digs36 from rfl, digs36_size]; omega)).toNat : Int))) :=
          run_convert_bytes_back _ 54 9 5 ⟨g, 63, none⟩ 2 (_ :: [b1]) Tryd.underlying54 Tryd.underlying5 Tryd.underlying9 (HR2.out.bytes rfl)
        clear HR2
        go_wp2
        go_ret2
        exact ⟨by rw [HX2.out]; rfl, HBw.out.setCell (Nat.le_of_eq HG.out) _⟩
      · obtain ⟨hcell, hfz⟩ := HRw.out.free (j := 62) (by simp)
        have HR2 := Lib.hid (HRw.out.put (j := 62) rfl ((⟨#[48, 49, 50, 51, 52, 53, 54, 55, 56, 57, 97, 98, 99, 100, 101, 102, 103, 104, 105, 106, 107, 108, 109, 110, 111, 112, 113, 114, 115, 116, 117, 118, 119, 120, 121, 122]⟩ : ByteArray)[v]'(by rw [show (⟨#[48, 49, 50, 51, 52, 53, 54, 55, 56, 57, 97, 98, 99, 100, 101, 102, 103, 104, 105, 106, 107, 108, 109, 110, 111, 112, 113, 114, 115, 116, 117, 118, 119, 120, 121, 122]⟩ : ByteArray) = digs36 from rfl, digs36_size]; omega)))
        have hcv : (convert 54 9 (.slice (some ⟨g, 62, none⟩) 3 3)).run Tryd.prog (wr.setCell ⟨g, 62, none⟩ (.int .u8 (((⟨#[48, 49, 50, 51, 52, 53, 54, 55, 56, 57, 97, 98, 99, 100, 101, 102, 103, 104, 105, 106, 107, 108, 109, 110, 111, 112, 113, 114, 115, 116, 117, 118, 119, 120, 121, 122]⟩ : ByteArray)[v]'(by rw [show (⟨#[48, 49, 50, 51, 52, 53, 54, 55, 56, 57, 97, 98, 99, 100, 101, 102, 103, 104, 105, 106, 107, 108, 109, 110, 111, 112, 113, 114, 115, 116, 117, 118, 119, 120, 121, 122]⟩ : ByteArray) = digs36 from rfl, digs36_size]; omega)).toNat : Int))) = .ok (.string (btx (((⟨#[48, 49, 50, 51, 52, 53, 54, 55, 56, 57, 97, 98, 99, 100, 101, 102, 103, 104, 105, 106, 107, 108, 109, 110, 111, 112, 113, 114, 115, 116, 117, 118, 119, 120, 121, 122]⟩ : ByteArray)[v]'(by rw [show (⟨#[48, 49, 50, 51, 52, 53, 54, 55, 56, 57, 97, 98, 99, 100, 101, 102, 103, 104, 105, 106, 107, 108, 109, 110, 111, 112, 113, 114, 115, 116, 117, 118, 119, 120, 121, 122]⟩ : ByteArray) = digs36 from rfl, digs36_size]; omega)) :: [b1, b2]))) (wr.setCell ⟨g, 62, none⟩ (.int .u8 (((⟨#[48, 49, 50, 51, 52, 53, 54, 55, 56, 57, 97, 98, 99, 100, 101, 102, 103, 104, 105, 106, 107, 108, 109, 110, 111, 112, 113, 114, 115, 116, 117, 118, 119, 120, 121, 122]⟩ : ByteArray)[v]'(by rw [show (⟨#[48, 49, 50, 51, 52, 53, 54, 55, 56, 57, 97, 98, 99, 100, 101, 102, 103, 104, 105, 106, 107, 108, 109, 110, 111, 112, 113, 114, 115, 116, 117, 118, 119, 120, 121, 122]⟩ : ByteArray) = digs36 from rfl, digs36_size]; omega)).toNat : Int))) :=
          run_convert_bytes_back _ 54 9 5 ⟨g, 62, none⟩ 3 (_ :: [b1, b2]) Tryd.underlying54 Tryd.underlying5 Tryd.underlying9 (HR2.out.bytes rfl)
        clear HR2
        go_wp2
        go_ret2
        exact ⟨by rw [HX2.out]; rfl, HBw.out.setCell (Nat.le_of_eq HG.out) _⟩
      · obtain ⟨hcell, hfz⟩ := HRw.out.free (j := 61) (by simp)
        have HR2 := Lib.hid (HRw.out.put (j := 61) rfl ((⟨#[48, 49, 50, 51, 52, 53, 54, 55, 56, 57, 97, 98, 99, 100, 101, 102, 103, 104, 105, 106, 107, 108, 109, 110, 111, 112, 113, 114, 115, 116, 117, 118, 119, 120, 121, 122]⟩ : ByteArray)[v]'(by rw [show (⟨#[48, 49, 50, 51, 52, 53, 54, 55, 56, 57, 97, 98, 99, 100, 101, 102, 103, 104, 105, 106, 107, 108, 109, 110, 111, 112, 113, 114, 115, 116, 117, 118, 119, 120, 121, 122]⟩ : ByteArray) = digs36 from rfl, digs36_size]; omega)))
        have hcv : (convert 54 9 (.slice (some ⟨g, 61, none⟩) 4 4)).run Tryd.prog (wr.setCell ⟨g, 61, none⟩ (.int .u8 (((⟨#[48, 49, 50, 51, 52, 53, 54, 55, 56, 57, 97, 98, 99, 100, 101, 102, 103, 104, 105, 106, 107, 108, 109, 110, 111, 112, 113, 114, 115, 116, 117, 118, 119, 120, 121, 122]⟩ : ByteArray)[v]'(by rw [show (⟨#[48, 49, 50, 51, 52, 53, 54, 55, 56, 57, 97, 98, 99, 100, 101, 102, 103, 104, 105, 106, 107, 108, 109, 110, 111, 112, 113, 114, 115, 116, 117, 118, 119, 120, 121, 122]⟩ : ByteArray) = digs36 from rfl, digs36_size]; omega)).toNat : Int))) = .ok (.string (btx (((⟨#[48, 49, 50, 51, 52, 53, 54, 55, 56, 57, 97, 98, 99, 100, 101, 102, 103, 104, 105, 106, 107, 108, 109, 110, 111, 112, 113, 114, 115, 116, 117, 118, 119, 120, 121, 122]⟩ : ByteArray)[v]'(by rw [show (⟨#[48, 49, 50, 51, 52, 53, 54, 55, 56, 57, 97, 98, 99, 100, 101, 102, 103, 104, 105, 106, 107, 108, 109, 110, 111, 112, 113, 114, 115, 116, 117, 118, 119, 120, 121, 122]⟩ : ByteArray) = digs36 from rfl, digs36_size]; omega)) :: [b1, b2, b3]))) (wr.setCell ⟨g, 61, none⟩ (.int .u8 (((⟨#[48, 49, 50, 51, 52, 53, 54, 55, 56, 57, 97, 98, 99, 100, 101, 102, 103, 104, 105, 106, 107, 108, 109, 110, 111, 112, 113, 114, 115, 116, 117, 118, 119, 120, 121, 122]⟩ : ByteArray)[v]'(by rw [show (⟨#[48, 49, 50, 51, 52, 53, 54, 55, 56, 57, 97, 98, 99, 100, 101, 102, 103, 104, 105, 106, 107, 108, 109, 110, 111, 112, 113, 114, 115, 116, 117, 118, 119, 120, 121, 122]⟩ : ByteArray) = digs36 from rfl, digs36_size]; omega)).toNat : Int))) :=
          run_convert_bytes_back _ 54 9 5 ⟨g, 61, none⟩ 4 (_ :: [b1, b2, b3]) Tryd.underlying54 Tryd.underlying5 Tryd.underlying9 (HR2.out.bytes rfl)
        clear HR2
        go_wp2
        go_ret2
        exact ⟨by rw [HX2.out]; rfl, HBw.out.setCell (Nat.le_of_eq HG.out) _⟩
end Go.Proofs.YtfodkkdggajjaaaDoor

/-
  In this text, one behind the other: YCon, SixParse.
-/
import Derived.Laws.CopyOwn
import Derived.Laws.CopyRow
import Derived.Deep.RegionLaw
import Derived.Test.YtfodkkdggajjaaaDoorG3
/-
  What the program's Parse and Text of layer 8 are held against: their contracts, as hypotheses; the example.
-/
namespace Go.Proofs.YtfodkkdggajjaaaDoor
open Go.RowKit

def Yes8 (w : World) (e : Ending) (w' : World) : Prop := e = .returned (.bool true) ∧ Below w.heap.size w w'
/-- An address and no error; or eight noughts and an error of the form. -/
def SixPost (o : Option (List Nat)) (w : World) (e : Ending) (w' : World) : Prop := match o with
  | none => ∃ cs u x, e = .returned (.tuple #[agg8 zero8, .iface u x]) ∧ Chain w' cs (some 2) (.iface u x) ∧ Below w.heap.size w w'
  | some c => e = .returned (.tuple #[agg8 c, .nilIface]) ∧ Below w.heap.size w w'
/-- The program's Parse and Text do as the document says, in every world behind w0. -/
structure SixC (w0 : World) : Prop where
  parse : ∀ (s : ByteArray) (w : World), Below w0.heap.size w0 w → s.size ≤ 200 → Calls Tryd.prog 10 #[.string s] w (SixPost (parse8 s.data.toList) w)
  text : ∀ (c : List Nat) (w : World), Below w0.heap.size w0 w → c.length = 8 → (∀ n ∈ c, n < 65536) → Calls Tryd.prog 8 #[agg8 c] w (Quiet8 (btx (text8 c)) w)

theorem six_ok {w0 : World} (C : SixC w0) {s : ByteArray} {c : List Nat} (h : parse8 s.data.toList = some c) (hs : s.size ≤ 200) (w : World) (hw : Below w0.heap.size w0 w) :
    Calls Tryd.prog 10 #[.string s] w fun e w' => e = .returned (.tuple #[agg8 c, .nilIface]) ∧ Below w.heap.size w w' := by
  have := C.parse s w hw hs
  rw [h] at this
  exact this
theorem six_no {w0 : World} (C : SixC w0) {s : ByteArray} (h : parse8 s.data.toList = none) (hs : s.size ≤ 200) (w : World) (hw : Below w0.heap.size w0 w) :
    Calls Tryd.prog 10 #[.string s] w fun e w' => ∃ cs u x, e = .returned (.tuple #[agg8 zero8, .iface u x]) ∧ Chain w' cs (some 2) (.iface u x) ∧ Below w.heap.size w w' := by
  have := C.parse s w hw hs
  rw [h] at this
  exact this
theorem six_a : parse8 (⟨#[49, 58, 58, 50, 46, 51, 46, 52, 46, 53]⟩ : ByteArray).data.toList = some [1, 0, 0, 0, 0, 0, 515, 1029] := by decide +kernel
theorem six_b : parse8 (⟨#[49, 58, 48, 58, 48, 58, 50, 58, 58, 58]⟩ : ByteArray).data.toList = none := by decide +kernel
theorem six_c : btx (text8 [1, 0, 0, 0, 0, 0, 515, 1029]) = ⟨#[49, 58, 58, 50, 48, 51, 58, 52, 48, 53]⟩ := by decide +kernel
theorem six_d : btx (text8 zero8) = ⟨#[58, 58]⟩ := by decide +kernel
theorem cell_kept8 {w w2 : World} {c : Array Value} {t : TypeId} (h : Below (w.alloc (.cells c t)).heap.size (w.alloc (.cells c t)) w2) {j : Nat} {v : Value} (hv : c[j]? = some v) : w2.cell? ⟨w.heap.size, j, none⟩ = some v := by
  refine (h.cell (p := ⟨w.heap.size, j, none⟩) (by simp)).trans ?_
  rw [World.cell?_alloc_at _ _ _ _ rfl]; exact hv
theorem size_lt8 {w w2 : World} {o : Obj} (h : Below (w.alloc o).heap.size (w.alloc o) w2) : w.heap.size < w2.heap.size := by
  have := h.size
  simp at this
  omega
theorem bnxa8 {W a b : World} {o : Obj} (h : Below W.heap.size W a) (k : Below (a.alloc o).heap.size (a.alloc o) b) : Below W.heap.size W b := bnx8 (h.alloc h.size o) k
theorem ip8_a {w0 : World} (C : SixC w0) (w : World) (hw : Below w0.heap.size w0 w) : Calls Tryd.prog 10 #[.string ⟨#[49, 58, 58, 50, 46, 51, 46, 52, 46, 53]⟩] w fun e w' => e = .returned (.tuple #[.agg #[.int .u16 1, .int .u16 0, .int .u16 0, .int .u16 0, .int .u16 0, .int .u16 0, .int .u16 515, .int .u16 1029], .nilIface]) ∧ Below w.heap.size w w' := six_ok C six_a (by decide) w hw
theorem ip8_b {w0 : World} (C : SixC w0) (w : World) (hw : Below w0.heap.size w0 w) : Calls Tryd.prog 10 #[.string ⟨#[49, 58, 48, 58, 48, 58, 50, 58, 58, 58]⟩] w fun e w' => ∃ cs u x, e = .returned (.tuple #[.agg #[.int .u16 0, .int .u16 0, .int .u16 0, .int .u16 0, .int .u16 0, .int .u16 0, .int .u16 0, .int .u16 0], .iface u x]) ∧ Chain w' cs (some 2) (.iface u x) ∧ Below w.heap.size w w' := six_no C six_b (by decide) w hw
theorem ip8_c {w0 : World} (C : SixC w0) (w : World) (hw : Below w0.heap.size w0 w) : Calls Tryd.prog 8 #[.agg #[.int .u16 1, .int .u16 0, .int .u16 0, .int .u16 0, .int .u16 0, .int .u16 0, .int .u16 515, .int .u16 1029]] w fun e w' => e = .returned (.string ⟨#[49, 58, 58, 50, 48, 51, 58, 52, 48, 53]⟩) ∧ Below w.heap.size w w' := by
  have := C.text [1, 0, 0, 0, 0, 0, 515, 1029] w hw rfl (by decide)
  rw [six_c] at this
  exact this
theorem ip8_d {w0 : World} (C : SixC w0) (w : World) (hw : Below w0.heap.size w0 w) : Calls Tryd.prog 8 #[.agg #[.int .u16 0, .int .u16 0, .int .u16 0, .int .u16 0, .int .u16 0, .int .u16 0, .int .u16 0, .int .u16 0]] w fun e w' => e = .returned (.string ⟨#[58, 58]⟩) ∧ Below w.heap.size w w' := by
  have := C.text zero8 w hw rfl (by decide)
  rw [six_d] at this
  exact this

theorem same_lit8 (W : World) : Sem.run Tryd.prog (Op.equalIn 10000 23 (.agg #[.int .u16 1, .int .u16 0, .int .u16 0, .int .u16 0, .int .u16 0, .int .u16 0, .int .u16 515, .int .u16 1029]) (.agg #[.int .u16 1, .int .u16 0, .int .u16 0, .int .u16 0, .int .u16 0, .int .u16 0, .int .u16 515, .int .u16 1029])) W = .ok true W := by kernel_rfl

set_option maxHeartbeats 2000000 in
set_option maxRecDepth 100000 in
theorem awake8 {w : World} (C : SixC w) : Calls Tryd.prog 7 #[] w (Yes8 w) := by
  have HC := Lib.hid C
  have HB := Lib.hid (Below.refl w.heap.size w)
  have hsame := same_lit8
  clear C
  go_enter Tryd.func7, Tryd.ntmps7
  go_wp2_with (first
    | (go_at_call 10; (with_reducible refine (ip8_a HC.out _ HB.out).mono ?_); rintro e w1 ⟨rfl, hb⟩; have HB := Lib.hid (bnx8 HB.out hb); clear hb)
    | (go_at_call 10; (with_reducible refine (ip8_b HC.out _ (HB.out.alloc HB.out.size _)).mono ?_); rintro e w2 ⟨cs2, u2, x2, rfl, hch, hb⟩; have HC2 := Lib.hid hch; have hlt12 := size_lt8 hb; have k0 := cell_kept8 hb (j := 0) rfl; have k1 := cell_kept8 hb (j := 1) rfl; have k2 := cell_kept8 hb (j := 2) rfl; have k3 := cell_kept8 hb (j := 3) rfl; have k4 := cell_kept8 hb (j := 4) rfl; have k5 := cell_kept8 hb (j := 5) rfl; have k6 := cell_kept8 hb (j := 6) rfl; have k7 := cell_kept8 hb (j := 7) rfl; have HB := Lib.hid (bnxa8 HB.out hb); clear hb hch)
    | (go_at_call 8; (with_reducible refine (ip8_c HC.out _ (HB.out.alloc HB.out.size _)).mono ?_); rintro e w3 ⟨rfl, hb⟩; have HC2 := Lib.hid ((HC2.out.below ((Below.refl _ _).alloc (Nat.le_refl _) _)).below hb); have HB := Lib.hid (bnxa8 HB.out hb); clear hb)
    | (go_at_call 8; (with_reducible refine (ip8_d HC.out _ HB.out).mono ?_); rintro e w4 ⟨rfl, hb⟩; have HC2 := Lib.hid (HC2.out.below hb); have HB := Lib.hid (bnx8 HB.out hb); clear hb)
    | (go_at_call 11; (with_reducible refine (is_any _ 2 2 u2 x2 _ HC2.out).mono ?_); rintro e w' ⟨rfl, rfl⟩))
  go_ret
  exact ⟨rfl, HB.out⟩
end Go.Proofs.YtfodkkdggajjaaaDoor

/-
  The program's Parse of layer 8, by its contract.
-/
namespace Go.Proofs.YtfodkkdggajjaaaDoor
open Go.RowKit

/-- An error of the package: wherever its block is as it was. -/
theorem wrap8_any (n : Int) (w : World) :
    Calls Tryd.prog 20 #[.iface 33 (.int .i64 n)] w fun e w' => ∃ cs b u' x', e = .returned (.iface u' x') ∧ w.heap.size ≤ b ∧ (∀ W : World, W.heap[b]? = w'.heap[b]? → Chain W cs (some n) (.iface u' x')) ∧ Below w.heap.size w w' := by
  go_enter Tryd.func20, Tryd.ntmps20
  go_wp2_with (go_at_call 29; refine (wrap_held _ _ _ _).mono ?_; rintro e w' ⟨rfl, rfl⟩)
  go_ret
  refine ⟨[⟨#[105, 112, 115, 105, 120]⟩], w.heap.size, _, _, rfl, Nat.le_refl _, fun W hW => ?_, (Below.refl _ _).alloc (Nat.le_refl _) _⟩
  obtain ⟨b, v', e, hl, h0, h1, h2⟩ := Chain.lay (w := w) (cs := []) (o := some n) ⟨#[105, 112, 115, 105, 120]⟩ rfl
  cases e
  have hlt : w.heap.size < W.heap.size := by
    rw [heap_alloc_new] at hW
    exact (Array.getElem?_eq_some_iff.1 hW).1
  refine ⟨_, v', rfl, hlt, ?_, ?_, h2⟩
  · rw [← h0]; simp only [World.cell?, hW]
  · rw [← h1]; simp only [World.cell?, hW]
theorem ne8 {g n b : Nat} (h : g < n) (hb : n ≤ b) : b ≠ g := by omega
theorem put8_other (W : World) (g b : Nat) (h : b ≠ g) (v0 v1 v2 v3 v4 v5 v6 v7 : Value) : ((((((((W.setCell ⟨g, 0, none⟩ v0).setCell ⟨g, 1, none⟩ v1).setCell ⟨g, 2, none⟩ v2).setCell ⟨g, 3, none⟩ v3).setCell ⟨g, 4, none⟩ v4).setCell ⟨g, 5, none⟩ v5).setCell ⟨g, 6, none⟩ v6).setCell ⟨g, 7, none⟩ v7).heap[b]? = W.heap[b]? := by
  rw [Below.heap_setCell _ _ _ _ h, Below.heap_setCell _ _ _ _ h, Below.heap_setCell _ _ _ _ h, Below.heap_setCell _ _ _ _ h, Below.heap_setCell _ _ _ _ h, Below.heap_setCell _ _ _ _ h, Below.heap_setCell _ _ _ _ h, Below.heap_setCell _ _ _ _ h]
theorem fits_any (n : Nat) (c t : Bool) (h : (if c then decide (n < 8) else decide (n = 8)) = t) (w : World) :
    Calls Tryd.prog 19 #[.int .i64 (n : Int), .bool c] w fun e w' => e = .returned (.bool t) ∧ w = w' := by
  cases c with
  | true =>
    go_enter Tryd.func19, Tryd.ntmps19
    go_wp2
    go_ret
    refine ⟨?_, rfl⟩
    subst h
    show Ending.returned (.bool (decide ((n : Int) < 8))) = .returned (.bool (decide (n < 8)))
    congr 3
    exact propext ⟨fun h => by omega, fun h => by omega⟩
  | false =>
    go_enter Tryd.func19, Tryd.ntmps19
    go_wp2
    go_ret
    refine ⟨?_, rfl⟩
    subst h
    show Ending.returned (.bool ((n : Int) == 8)) = .returned (.bool (decide (n = 8)))
    congr 2
    rw [Bool.eq_iff_iff, beq_iff_eq, decide_eq_true_iff]
    omega
theorem read_ok {s : ByteArray} {last : Bool} {l : List Nat} {x0 x1 x2 x3 x4 x5 x6 x7 : Nat} (h : side8 s.data.toList last = some l) (hp : padN 8 l = [x0, x1, x2, x3, x4, x5, x6, x7]) (hs : s.size ≤ 10000) (w : World) (hv : V8 w) :
    Calls Tryd.prog 18 #[.string s, .bool last] w fun e w' => e = .returned (.tuple #[.agg #[.int .u16 (x0 : Int), .int .u16 (x1 : Int), .int .u16 (x2 : Int), .int .u16 (x3 : Int), .int .u16 (x4 : Int), .int .u16 (x5 : Int), .int .u16 (x6 : Int), .int .u16 (x7 : Int)], .int .i64 (l.length : Nat), .bool true]) ∧ Below w.heap.size w w' := by
  refine (read_any s last hs w hv _ h).mono ?_
  rintro e w' ⟨he, hb⟩
  rw [hp] at he
  exact ⟨he, hb⟩
theorem read_no {s : ByteArray} {last : Bool} (h : side8 s.data.toList last = none) (hs : s.size ≤ 10000) (w : World) (hv : V8 w) :
    Calls Tryd.prog 18 #[.string s, .bool last] w fun e w' => ∃ x0 x1 x2 x3 x4 x5 x6 x7 : Nat, e = .returned (.tuple #[.agg #[.int .u16 (x0 : Int), .int .u16 (x1 : Int), .int .u16 (x2 : Int), .int .u16 (x3 : Int), .int .u16 (x4 : Int), .int .u16 (x5 : Int), .int .u16 (x6 : Int), .int .u16 (x7 : Int)], .int .i64 0, .bool false]) ∧ Below w.heap.size w w' := by
  refine (read_any s last hs w hv _ h).mono ?_
  rintro e w' ⟨c, hc, he, hb⟩
  obtain ⟨x0, x1, x2, x3, x4, x5, x6, x7, rfl⟩ := eight_of8 hc
  exact ⟨x0, x1, x2, x3, x4, x5, x6, x7, he, hb⟩
theorem sides_size (s : ByteArray) (k : Nat) (hs : s.size ≤ 10000) : (btx (s.data.toList.take k)).size ≤ 10000 ∧ (btx (s.data.toList.drop (k + 2))).size ≤ 10000 := by
  have : s.data.toList.length = s.size := by simp
  rw [btx_size, btx_size, List.length_take, List.length_drop]
  omega
theorem pair_no {s : ByteArray} (h : colons8 s.data.toList = none) (hs : s.size ≤ 10000) (w : World) (hv : V8 w) :
    Calls Tryd.prog 17 #[.string s, .string ⟨#[58, 58]⟩] w fun e w' => e = .returned (.tuple #[.string s, .string ⟨#[]⟩, .bool false]) ∧ Below w.heap.size w w' := cutAny8 s ⟨#[58, 58]⟩ _ _ _ (cut_pair_none h) w hv hs
theorem pair_yes {s : ByteArray} {k : Nat} (h : colons8 s.data.toList = some k) (hs : s.size ≤ 10000) (w : World) (hv : V8 w) :
    Calls Tryd.prog 17 #[.string s, .string ⟨#[58, 58]⟩] w fun e w' => e = .returned (.tuple #[.string (btx (s.data.toList.take k)), .string (btx (s.data.toList.drop (k + 2))), .bool true]) ∧ Below w.heap.size w w' := cutAny8 s ⟨#[58, 58]⟩ _ _ _ (cut_pair_some h) w hv hs
/-- Eight pieces, and an error or none, of a result that lies in a block. -/
theorem parse_res {W : World} {g : Nat} {x0 x1 x2 x3 x4 x5 x6 x7 : Nat} (h : RowU 23 W g [x0, x1, x2, x3, x4, x5, x6, x7]) (tmps : Array Value) (n : Value) (h4 : tmps.getD 2 undef = .pointer (some ⟨g, 0, none⟩)) (h5 : tmps.getD 3 undef = n) :
    (results Tryd.f10 tmps).run Tryd.prog W = .ok (.tuple #[.agg #[.int .u16 (x0 : Int), .int .u16 (x1 : Int), .int .u16 (x2 : Int), .int .u16 (x3 : Int), .int .u16 (x4 : Int), .int .u16 (x5 : Int), .int .u16 (x6 : Int), .int .u16 (x7 : Int)], n]) W := by
  obtain ⟨c0, c1, c2, c3, c4, c5, c6, c7, f0, f1, f2, f3, f4, f5, f6, f7⟩ := rows8 h
  rw [Array.getD_eq_getD_getElem?] at h4 h5
  simp [results, Tryd.results10, go_sem, h4, h5, c0, c1, c2, c3, c4, c5, c6, c7]

theorem bel8 (o : Obj) (w : World) : Below w.heap.size w (w.alloc o) := (Below.refl _ _).alloc (Nat.le_refl _) _
theorem bal8 {w W : World} (h : Below w.heap.size w W) (o : Obj) : Below w.heap.size w (W.alloc o) := h.alloc h.size o

set_option maxHeartbeats 4000000 in
set_option maxRecDepth 100000 in
theorem parse_e1 (s : ByteArray) (hs : s.size ≤ 10000) (w : World) (hv : V8 w) (hc : colons8 s.data.toList = none) (h1 : side8 s.data.toList true = none) : Calls Tryd.prog 10 #[.string s] w (SixPost none w) := by
  have HCut := Lib.hid (fun w hv => pair_no hc hs w hv)
  have HRd1 := Lib.hid (fun w hv => read_no h1 hs w hv)
  have HRd2 := Lib.hid (fun w hv => read_ok (s := ⟨#[]⟩) (side8_nil true) (hp := rfl) (by decide) w hv)
  clear hc h1
  have HR0 : Hid (RowU 23 (w.alloc (.cells #[.int .u16 0, .int .u16 0, .int .u16 0, .int .u16 0, .int .u16 0, .int .u16 0, .int .u16 0, .int .u16 0] 23)) w.heap.size zero8) := by
    show RowU _ _ _ _
    exact RowU.new 23 w zero8
  have HB0 : Hid (Below w.heap.size w (w.alloc (.cells #[.int .u16 0, .int .u16 0, .int .u16 0, .int .u16 0, .int .u16 0, .int .u16 0, .int .u16 0, .int .u16 0] 23))) := bel8 _ _
  have HV0 : Hid (V8 (w.alloc (.cells #[.int .u16 0, .int .u16 0, .int .u16 0, .int .u16 0, .int .u16 0, .int .u16 0, .int .u16 0, .int .u16 0] 23))) := hv.below (bel8 _ _)
  clear hv
  go_enter Tryd.func10, Tryd.ntmps10
  go_wp2_with (first
    | (go_at_call 17; (with_reducible refine (HCut.out _ HV0.out).mono ?_); rintro e w1 ⟨rfl, hb⟩; have HB1 := Lib.hid (bnx8 HB0.out hb); have HV1 := Lib.hid (HV0.out.below hb); have HR1 := Lib.hid (HR0.out.below hb); clear hb)
    | (go_at_call 18; (with_reducible refine (HRd2.out _ HV2b.out).mono ?_); rintro e w3 ⟨rfl, hb⟩; have HB3 := Lib.hid (bnx8 HB2b.out hb); have HR3 := Lib.hid (HR2b.out.below hb); have HA3 := Lib.hid (HA2.out.below hb); have HB3b := Lib.hid (bal8 HB3.out (.cells #[.int .u16 0, .int .u16 0, .int .u16 0, .int .u16 0, .int .u16 0, .int .u16 0, .int .u16 0, .int .u16 0] 23)); have HR3b := Lib.hid (HR3.out.below (bel8 (.cells #[.int .u16 0, .int .u16 0, .int .u16 0, .int .u16 0, .int .u16 0, .int .u16 0, .int .u16 0, .int .u16 0] 23) w3)); have HA3b := Lib.hid (HA3.out.below (bel8 (.cells #[.int .u16 0, .int .u16 0, .int .u16 0, .int .u16 0, .int .u16 0, .int .u16 0, .int .u16 0, .int .u16 0] 23) w3)); have HC3 := Lib.hid (RowU.new 23 w3 zero8); clear hb)
    | (go_at_call 18; (with_reducible refine (HRd1.out _ HV1.out).mono ?_); rintro e w2 ⟨x0, x1, x2, x3, x4, x5, x6, x7, rfl, hb⟩; have HB2 := Lib.hid (bnx8 HB1.out hb); have HV2 := Lib.hid (HV1.out.below hb); have HR2 := Lib.hid (HR1.out.below hb); have HB2b := Lib.hid (bal8 HB2.out (.cells #[.int .u16 (x0 : Int), .int .u16 (x1 : Int), .int .u16 (x2 : Int), .int .u16 (x3 : Int), .int .u16 (x4 : Int), .int .u16 (x5 : Int), .int .u16 (x6 : Int), .int .u16 (x7 : Int)] 23)); have HV2b := Lib.hid (HV2.out.below (bel8 (.cells #[.int .u16 (x0 : Int), .int .u16 (x1 : Int), .int .u16 (x2 : Int), .int .u16 (x3 : Int), .int .u16 (x4 : Int), .int .u16 (x5 : Int), .int .u16 (x6 : Int), .int .u16 (x7 : Int)] 23) w2)); have HR2b := Lib.hid (HR2.out.below (bel8 (.cells #[.int .u16 (x0 : Int), .int .u16 (x1 : Int), .int .u16 (x2 : Int), .int .u16 (x3 : Int), .int .u16 (x4 : Int), .int .u16 (x5 : Int), .int .u16 (x6 : Int), .int .u16 (x7 : Int)] 23) w2)); have HA2 := Lib.hid (RowU.new 23 w2 [x0, x1, x2, x3, x4, x5, x6, x7]); clear hb)
    | (go_at_call 20; (with_reducible refine (wrap8_any 2 _).mono ?_); rintro e w5 ⟨cs, b, u', x', rfl, hbge, hch, hb⟩; have HCh := Lib.hid hch; have HBg := Lib.hid (ne8 HR3b.out.lt hbge); have HB5 := Lib.hid (bnx8 HB3b.out hb); have HR5 := Lib.hid (HR3b.out.below hb); obtain ⟨c0, c1, c2, c3, c4, c5, c6, c7, f0, f1, f2, f3, f4, f5, f6, f7⟩ := rows8 HR5.out; have hgl5 := HR5.out.lt; clear hb hch hbge))
  refine bodyPost_ret (parse_res (put8_rows HR5.out rfl 0 0 0 0 0 0 0 0) _ (.iface u' x') rfl rfl) rfl ?_
  exact ⟨cs, u', x', rfl, HCh.out _ (put8_other _ _ _ HBg.out _ _ _ _ _ _ _ _), below_put8 (Nat.le_refl _) HB5.out _ _ _ _ _ _ _ _⟩

set_option maxHeartbeats 4000000 in
set_option maxRecDepth 100000 in
theorem parse_e2 (s : ByteArray) (hs : s.size ≤ 10000) (w : World) (hv : V8 w) (hc : colons8 s.data.toList = none) (l : List Nat) (h1 : side8 s.data.toList true = some l) (h8 : l.length ≠ 8) : Calls Tryd.prog 10 #[.string s] w (SixPost none w) := by
  have hl8 := (side8_len h1).1
  obtain ⟨x0, x1, x2, x3, x4, x5, x6, x7, hp⟩ := eight_of8 (padN_len hl8)
  have HCut := Lib.hid (fun w hv => pair_no hc hs w hv)
  have HRd1 := Lib.hid (fun w hv => read_ok h1 hp hs w hv)
  have HRd2 := Lib.hid (fun w hv => read_ok (s := ⟨#[]⟩) (side8_nil true) (hp := rfl) (by decide) w hv)
  have HFit := Lib.hid (fits_any l.length false false (by simp [h8]))
  clear hc h1 hp
  have HR0 : Hid (RowU 23 (w.alloc (.cells #[.int .u16 0, .int .u16 0, .int .u16 0, .int .u16 0, .int .u16 0, .int .u16 0, .int .u16 0, .int .u16 0] 23)) w.heap.size zero8) := by
    show RowU _ _ _ _
    exact RowU.new 23 w zero8
  have HB0 : Hid (Below w.heap.size w (w.alloc (.cells #[.int .u16 0, .int .u16 0, .int .u16 0, .int .u16 0, .int .u16 0, .int .u16 0, .int .u16 0, .int .u16 0] 23))) := bel8 _ _
  have HV0 : Hid (V8 (w.alloc (.cells #[.int .u16 0, .int .u16 0, .int .u16 0, .int .u16 0, .int .u16 0, .int .u16 0, .int .u16 0, .int .u16 0] 23))) := hv.below (bel8 _ _)
  clear hv
  go_enter Tryd.func10, Tryd.ntmps10
  go_wp2_with (first
    | (go_at_call 17; (with_reducible refine (HCut.out _ HV0.out).mono ?_); rintro e w1 ⟨rfl, hb⟩; have HB1 := Lib.hid (bnx8 HB0.out hb); have HV1 := Lib.hid (HV0.out.below hb); have HR1 := Lib.hid (HR0.out.below hb); clear hb)
    | (go_at_call 18; (with_reducible refine (HRd2.out _ HV2b.out).mono ?_); rintro e w3 ⟨rfl, hb⟩; have HB3 := Lib.hid (bnx8 HB2b.out hb); have HR3 := Lib.hid (HR2b.out.below hb); have HA3 := Lib.hid (HA2.out.below hb); have HB3b := Lib.hid (bal8 HB3.out (.cells #[.int .u16 0, .int .u16 0, .int .u16 0, .int .u16 0, .int .u16 0, .int .u16 0, .int .u16 0, .int .u16 0] 23)); have HR3b := Lib.hid (HR3.out.below (bel8 (.cells #[.int .u16 0, .int .u16 0, .int .u16 0, .int .u16 0, .int .u16 0, .int .u16 0, .int .u16 0, .int .u16 0] 23) w3)); have HA3b := Lib.hid (HA3.out.below (bel8 (.cells #[.int .u16 0, .int .u16 0, .int .u16 0, .int .u16 0, .int .u16 0, .int .u16 0, .int .u16 0, .int .u16 0] 23) w3)); have HC3 := Lib.hid (RowU.new 23 w3 zero8); clear hb)
    | (go_at_call 18; (with_reducible refine (HRd1.out _ HV1.out).mono ?_); rintro e w2 ⟨rfl, hb⟩; have HB2 := Lib.hid (bnx8 HB1.out hb); have HV2 := Lib.hid (HV1.out.below hb); have HR2 := Lib.hid (HR1.out.below hb); have HB2b := Lib.hid (bal8 HB2.out (.cells #[.int .u16 (x0 : Int), .int .u16 (x1 : Int), .int .u16 (x2 : Int), .int .u16 (x3 : Int), .int .u16 (x4 : Int), .int .u16 (x5 : Int), .int .u16 (x6 : Int), .int .u16 (x7 : Int)] 23)); have HV2b := Lib.hid (HV2.out.below (bel8 (.cells #[.int .u16 (x0 : Int), .int .u16 (x1 : Int), .int .u16 (x2 : Int), .int .u16 (x3 : Int), .int .u16 (x4 : Int), .int .u16 (x5 : Int), .int .u16 (x6 : Int), .int .u16 (x7 : Int)] 23) w2)); have HR2b := Lib.hid (HR2.out.below (bel8 (.cells #[.int .u16 (x0 : Int), .int .u16 (x1 : Int), .int .u16 (x2 : Int), .int .u16 (x3 : Int), .int .u16 (x4 : Int), .int .u16 (x5 : Int), .int .u16 (x6 : Int), .int .u16 (x7 : Int)] 23) w2)); have HA2 := Lib.hid (RowU.new 23 w2 [x0, x1, x2, x3, x4, x5, x6, x7]); clear hb)
    | (go_at_call 19; (with_reducible refine (HFit.out _).mono ?_); rintro e w9 ⟨rfl, rfl⟩)
    | (go_at_call 20; (with_reducible refine (wrap8_any 2 _).mono ?_); rintro e w5 ⟨cs, b, u', x', rfl, hbge, hch, hb⟩; have HCh := Lib.hid hch; have HBg := Lib.hid (ne8 HR3b.out.lt hbge); have HB5 := Lib.hid (bnx8 HB3b.out hb); have HR5 := Lib.hid (HR3b.out.below hb); obtain ⟨c0, c1, c2, c3, c4, c5, c6, c7, f0, f1, f2, f3, f4, f5, f6, f7⟩ := rows8 HR5.out; have hgl5 := HR5.out.lt; clear hb hch hbge))
  refine bodyPost_ret (parse_res (put8_rows HR5.out rfl 0 0 0 0 0 0 0 0) _ (.iface u' x') rfl rfl) rfl ?_
  exact ⟨cs, u', x', rfl, HCh.out _ (put8_other _ _ _ HBg.out _ _ _ _ _ _ _ _), below_put8 (Nat.le_refl _) HB5.out _ _ _ _ _ _ _ _⟩

set_option maxHeartbeats 4000000 in
set_option maxRecDepth 100000 in
theorem parse_e3 (s : ByteArray) (hs : s.size ≤ 10000) (w : World) (hv : V8 w) (k : Nat) (hc : colons8 s.data.toList = some k) (h1 : side8 (s.data.toList.take k) false = none) (b : List Nat) (h2 : side8 (s.data.toList.drop (k + 2)) true = some b) : Calls Tryd.prog 10 #[.string s] w (SixPost none w) := by
  obtain ⟨hs1, hs2⟩ := sides_size s k hs
  have HCut := Lib.hid (fun w hv => pair_yes hc hs w hv)
  have hb8 := (side8_len h2).1
  obtain ⟨y0, y1, y2, y3, y4, y5, y6, y7, hq⟩ := eight_of8 (padN_len hb8)
  have HRd1 := Lib.hid (fun w hv => read_no (s := btx (s.data.toList.take k)) h1 hs1 w hv)
  have HRd2 := Lib.hid (fun w hv => read_ok (s := btx (s.data.toList.drop (k + 2))) h2 hq hs2 w hv)
  generalize btx (s.data.toList.take k) = p at hs1 HCut HRd1
  generalize btx (s.data.toList.drop (k + 2)) = q at hs2 HCut HRd2
  clear hc h1 h2 hq hs1 hs2
  have HR0 : Hid (RowU 23 (w.alloc (.cells #[.int .u16 0, .int .u16 0, .int .u16 0, .int .u16 0, .int .u16 0, .int .u16 0, .int .u16 0, .int .u16 0] 23)) w.heap.size zero8) := by
    show RowU _ _ _ _
    exact RowU.new 23 w zero8
  have HB0 : Hid (Below w.heap.size w (w.alloc (.cells #[.int .u16 0, .int .u16 0, .int .u16 0, .int .u16 0, .int .u16 0, .int .u16 0, .int .u16 0, .int .u16 0] 23))) := bel8 _ _
  have HV0 : Hid (V8 (w.alloc (.cells #[.int .u16 0, .int .u16 0, .int .u16 0, .int .u16 0, .int .u16 0, .int .u16 0, .int .u16 0, .int .u16 0] 23))) := hv.below (bel8 _ _)
  clear hv
  go_enter Tryd.func10, Tryd.ntmps10
  go_wp2_with (first
    | (go_at_call 17; (with_reducible refine (HCut.out _ HV0.out).mono ?_); rintro e w1 ⟨rfl, hb⟩; have HB1 := Lib.hid (bnx8 HB0.out hb); have HV1 := Lib.hid (HV0.out.below hb); have HR1 := Lib.hid (HR0.out.below hb); clear hb)
    | (go_at_call 18; (with_reducible refine (HRd2.out _ HV2b.out).mono ?_); rintro e w3 ⟨rfl, hb⟩; have HB3 := Lib.hid (bnx8 HB2b.out hb); have HR3 := Lib.hid (HR2b.out.below hb); have HA3 := Lib.hid (HA2.out.below hb); have HB3b := Lib.hid (bal8 HB3.out (.cells #[.int .u16 (y0 : Int), .int .u16 (y1 : Int), .int .u16 (y2 : Int), .int .u16 (y3 : Int), .int .u16 (y4 : Int), .int .u16 (y5 : Int), .int .u16 (y6 : Int), .int .u16 (y7 : Int)] 23)); have HR3b := Lib.hid (HR3.out.below (bel8 (.cells #[.int .u16 (y0 : Int), .int .u16 (y1 : Int), .int .u16 (y2 : Int), .int .u16 (y3 : Int), .int .u16 (y4 : Int), .int .u16 (y5 : Int), .int .u16 (y6 : Int), .int .u16 (y7 : Int)] 23) w3)); have HA3b := Lib.hid (HA3.out.below (bel8 (.cells #[.int .u16 (y0 : Int), .int .u16 (y1 : Int), .int .u16 (y2 : Int), .int .u16 (y3 : Int), .int .u16 (y4 : Int), .int .u16 (y5 : Int), .int .u16 (y6 : Int), .int .u16 (y7 : Int)] 23) w3)); have HC3 := Lib.hid (RowU.new 23 w3 [y0, y1, y2, y3, y4, y5, y6, y7]); clear hb)
    | (go_at_call 18; (with_reducible refine (HRd1.out _ HV1.out).mono ?_); rintro e w2 ⟨x0, x1, x2, x3, x4, x5, x6, x7, rfl, hb⟩; have HB2 := Lib.hid (bnx8 HB1.out hb); have HV2 := Lib.hid (HV1.out.below hb); have HR2 := Lib.hid (HR1.out.below hb); have HB2b := Lib.hid (bal8 HB2.out (.cells #[.int .u16 (x0 : Int), .int .u16 (x1 : Int), .int .u16 (x2 : Int), .int .u16 (x3 : Int), .int .u16 (x4 : Int), .int .u16 (x5 : Int), .int .u16 (x6 : Int), .int .u16 (x7 : Int)] 23)); have HV2b := Lib.hid (HV2.out.below (bel8 (.cells #[.int .u16 (x0 : Int), .int .u16 (x1 : Int), .int .u16 (x2 : Int), .int .u16 (x3 : Int), .int .u16 (x4 : Int), .int .u16 (x5 : Int), .int .u16 (x6 : Int), .int .u16 (x7 : Int)] 23) w2)); have HR2b := Lib.hid (HR2.out.below (bel8 (.cells #[.int .u16 (x0 : Int), .int .u16 (x1 : Int), .int .u16 (x2 : Int), .int .u16 (x3 : Int), .int .u16 (x4 : Int), .int .u16 (x5 : Int), .int .u16 (x6 : Int), .int .u16 (x7 : Int)] 23) w2)); have HA2 := Lib.hid (RowU.new 23 w2 [x0, x1, x2, x3, x4, x5, x6, x7]); clear hb)
    | (go_at_call 20; (with_reducible refine (wrap8_any 2 _).mono ?_); rintro e w5 ⟨cs, b, u', x', rfl, hbge, hch, hb⟩; have HCh := Lib.hid hch; have HBg := Lib.hid (ne8 HR3b.out.lt hbge); have HB5 := Lib.hid (bnx8 HB3b.out hb); have HR5 := Lib.hid (HR3b.out.below hb); obtain ⟨c0, c1, c2, c3, c4, c5, c6, c7, f0, f1, f2, f3, f4, f5, f6, f7⟩ := rows8 HR5.out; have hgl5 := HR5.out.lt; clear hb hch hbge))
  refine bodyPost_ret (parse_res (put8_rows HR5.out rfl 0 0 0 0 0 0 0 0) _ (.iface u' x') rfl rfl) rfl ?_
  exact ⟨cs, u', x', rfl, HCh.out _ (put8_other _ _ _ HBg.out _ _ _ _ _ _ _ _), below_put8 (Nat.le_refl _) HB5.out _ _ _ _ _ _ _ _⟩

set_option maxHeartbeats 4000000 in
set_option maxRecDepth 100000 in
theorem parse_e4 (s : ByteArray) (hs : s.size ≤ 10000) (w : World) (hv : V8 w) (k : Nat) (hc : colons8 s.data.toList = some k) (h1 : side8 (s.data.toList.take k) false = none) (h2 : side8 (s.data.toList.drop (k + 2)) true = none) : Calls Tryd.prog 10 #[.string s] w (SixPost none w) := by
  obtain ⟨hs1, hs2⟩ := sides_size s k hs
  have HCut := Lib.hid (fun w hv => pair_yes hc hs w hv)
  have HRd1 := Lib.hid (fun w hv => read_no (s := btx (s.data.toList.take k)) h1 hs1 w hv)
  have HRd2 := Lib.hid (fun w hv => read_no (s := btx (s.data.toList.drop (k + 2))) h2 hs2 w hv)
  generalize btx (s.data.toList.take k) = p at hs1 HCut HRd1
  generalize btx (s.data.toList.drop (k + 2)) = q at hs2 HCut HRd2
  clear hc h1 h2 hs1 hs2
  have HR0 : Hid (RowU 23 (w.alloc (.cells #[.int .u16 0, .int .u16 0, .int .u16 0, .int .u16 0, .int .u16 0, .int .u16 0, .int .u16 0, .int .u16 0] 23)) w.heap.size zero8) := by
    show RowU _ _ _ _
    exact RowU.new 23 w zero8
  have HB0 : Hid (Below w.heap.size w (w.alloc (.cells #[.int .u16 0, .int .u16 0, .int .u16 0, .int .u16 0, .int .u16 0, .int .u16 0, .int .u16 0, .int .u16 0] 23))) := bel8 _ _
  have HV0 : Hid (V8 (w.alloc (.cells #[.int .u16 0, .int .u16 0, .int .u16 0, .int .u16 0, .int .u16 0, .int .u16 0, .int .u16 0, .int .u16 0] 23))) := hv.below (bel8 _ _)
  clear hv
  go_enter Tryd.func10, Tryd.ntmps10
  go_wp2_with (first
    | (go_at_call 17; (with_reducible refine (HCut.out _ HV0.out).mono ?_); rintro e w1 ⟨rfl, hb⟩; have HB1 := Lib.hid (bnx8 HB0.out hb); have HV1 := Lib.hid (HV0.out.below hb); have HR1 := Lib.hid (HR0.out.below hb); clear hb)
    | (go_at_call 18; (with_reducible refine (HRd2.out _ HV2b.out).mono ?_); rintro e w3 ⟨y0, y1, y2, y3, y4, y5, y6, y7, rfl, hb⟩; have HB3 := Lib.hid (bnx8 HB2b.out hb); have HR3 := Lib.hid (HR2b.out.below hb); have HA3 := Lib.hid (HA2.out.below hb); have HB3b := Lib.hid (bal8 HB3.out (.cells #[.int .u16 (y0 : Int), .int .u16 (y1 : Int), .int .u16 (y2 : Int), .int .u16 (y3 : Int), .int .u16 (y4 : Int), .int .u16 (y5 : Int), .int .u16 (y6 : Int), .int .u16 (y7 : Int)] 23)); have HR3b := Lib.hid (HR3.out.below (bel8 (.cells #[.int .u16 (y0 : Int), .int .u16 (y1 : Int), .int .u16 (y2 : Int), .int .u16 (y3 : Int), .int .u16 (y4 : Int), .int .u16 (y5 : Int), .int .u16 (y6 : Int), .int .u16 (y7 : Int)] 23) w3)); have HA3b := Lib.hid (HA3.out.below (bel8 (.cells #[.int .u16 (y0 : Int), .int .u16 (y1 : Int), .int .u16 (y2 : Int), .int .u16 (y3 : Int), .int .u16 (y4 : Int), .int .u16 (y5 : Int), .int .u16 (y6 : Int), .int .u16 (y7 : Int)] 23) w3)); have HC3 := Lib.hid (RowU.new 23 w3 [y0, y1, y2, y3, y4, y5, y6, y7]); clear hb)
    | (go_at_call 18; (with_reducible refine (HRd1.out _ HV1.out).mono ?_); rintro e w2 ⟨x0, x1, x2, x3, x4, x5, x6, x7, rfl, hb⟩; have HB2 := Lib.hid (bnx8 HB1.out hb); have HV2 := Lib.hid (HV1.out.below hb); have HR2 := Lib.hid (HR1.out.below hb); have HB2b := Lib.hid (bal8 HB2.out (.cells #[.int .u16 (x0 : Int), .int .u16 (x1 : Int), .int .u16 (x2 : Int), .int .u16 (x3 : Int), .int .u16 (x4 : Int), .int .u16 (x5 : Int), .int .u16 (x6 : Int), .int .u16 (x7 : Int)] 23)); have HV2b := Lib.hid (HV2.out.below (bel8 (.cells #[.int .u16 (x0 : Int), .int .u16 (x1 : Int), .int .u16 (x2 : Int), .int .u16 (x3 : Int), .int .u16 (x4 : Int), .int .u16 (x5 : Int), .int .u16 (x6 : Int), .int .u16 (x7 : Int)] 23) w2)); have HR2b := Lib.hid (HR2.out.below (bel8 (.cells #[.int .u16 (x0 : Int), .int .u16 (x1 : Int), .int .u16 (x2 : Int), .int .u16 (x3 : Int), .int .u16 (x4 : Int), .int .u16 (x5 : Int), .int .u16 (x6 : Int), .int .u16 (x7 : Int)] 23) w2)); have HA2 := Lib.hid (RowU.new 23 w2 [x0, x1, x2, x3, x4, x5, x6, x7]); clear hb)
    | (go_at_call 20; (with_reducible refine (wrap8_any 2 _).mono ?_); rintro e w5 ⟨cs, b, u', x', rfl, hbge, hch, hb⟩; have HCh := Lib.hid hch; have HBg := Lib.hid (ne8 HR3b.out.lt hbge); have HB5 := Lib.hid (bnx8 HB3b.out hb); have HR5 := Lib.hid (HR3b.out.below hb); obtain ⟨c0, c1, c2, c3, c4, c5, c6, c7, f0, f1, f2, f3, f4, f5, f6, f7⟩ := rows8 HR5.out; have hgl5 := HR5.out.lt; clear hb hch hbge))
  refine bodyPost_ret (parse_res (put8_rows HR5.out rfl 0 0 0 0 0 0 0 0) _ (.iface u' x') rfl rfl) rfl ?_
  exact ⟨cs, u', x', rfl, HCh.out _ (put8_other _ _ _ HBg.out _ _ _ _ _ _ _ _), below_put8 (Nat.le_refl _) HB5.out _ _ _ _ _ _ _ _⟩

set_option maxHeartbeats 4000000 in
set_option maxRecDepth 100000 in
theorem parse_e5 (s : ByteArray) (hs : s.size ≤ 10000) (w : World) (hv : V8 w) (k : Nat) (hc : colons8 s.data.toList = some k) (a : List Nat) (h1 : side8 (s.data.toList.take k) false = some a) (h2 : side8 (s.data.toList.drop (k + 2)) true = none) : Calls Tryd.prog 10 #[.string s] w (SixPost none w) := by
  obtain ⟨hs1, hs2⟩ := sides_size s k hs
  have HCut := Lib.hid (fun w hv => pair_yes hc hs w hv)
  have ha8 := (side8_len h1).1
  obtain ⟨x0, x1, x2, x3, x4, x5, x6, x7, hp⟩ := eight_of8 (padN_len ha8)
  have HRd1 := Lib.hid (fun w hv => read_ok (s := btx (s.data.toList.take k)) h1 hp hs1 w hv)
  have HRd2 := Lib.hid (fun w hv => read_no (s := btx (s.data.toList.drop (k + 2))) h2 hs2 w hv)
  generalize btx (s.data.toList.take k) = p at hs1 HCut HRd1
  generalize btx (s.data.toList.drop (k + 2)) = q at hs2 HCut HRd2
  clear hc h1 h2 hp hs1 hs2
  have HR0 : Hid (RowU 23 (w.alloc (.cells #[.int .u16 0, .int .u16 0, .int .u16 0, .int .u16 0, .int .u16 0, .int .u16 0, .int .u16 0, .int .u16 0] 23)) w.heap.size zero8) := by
    show RowU _ _ _ _
    exact RowU.new 23 w zero8
  have HB0 : Hid (Below w.heap.size w (w.alloc (.cells #[.int .u16 0, .int .u16 0, .int .u16 0, .int .u16 0, .int .u16 0, .int .u16 0, .int .u16 0, .int .u16 0] 23))) := bel8 _ _
  have HV0 : Hid (V8 (w.alloc (.cells #[.int .u16 0, .int .u16 0, .int .u16 0, .int .u16 0, .int .u16 0, .int .u16 0, .int .u16 0, .int .u16 0] 23))) := hv.below (bel8 _ _)
  clear hv
  go_enter Tryd.func10, Tryd.ntmps10
  go_wp2_with (first
    | (go_at_call 17; (with_reducible refine (HCut.out _ HV0.out).mono ?_); rintro e w1 ⟨rfl, hb⟩; have HB1 := Lib.hid (bnx8 HB0.out hb); have HV1 := Lib.hid (HV0.out.below hb); have HR1 := Lib.hid (HR0.out.below hb); clear hb)
    | (go_at_call 18; (with_reducible refine (HRd2.out _ HV2b.out).mono ?_); rintro e w3 ⟨y0, y1, y2, y3, y4, y5, y6, y7, rfl, hb⟩; have HB3 := Lib.hid (bnx8 HB2b.out hb); have HR3 := Lib.hid (HR2b.out.below hb); have HA3 := Lib.hid (HA2.out.below hb); have HB3b := Lib.hid (bal8 HB3.out (.cells #[.int .u16 (y0 : Int), .int .u16 (y1 : Int), .int .u16 (y2 : Int), .int .u16 (y3 : Int), .int .u16 (y4 : Int), .int .u16 (y5 : Int), .int .u16 (y6 : Int), .int .u16 (y7 : Int)] 23)); have HR3b := Lib.hid (HR3.out.below (bel8 (.cells #[.int .u16 (y0 : Int), .int .u16 (y1 : Int), .int .u16 (y2 : Int), .int .u16 (y3 : Int), .int .u16 (y4 : Int), .int .u16 (y5 : Int), .int .u16 (y6 : Int), .int .u16 (y7 : Int)] 23) w3)); have HA3b := Lib.hid (HA3.out.below (bel8 (.cells #[.int .u16 (y0 : Int), .int .u16 (y1 : Int), .int .u16 (y2 : Int), .int .u16 (y3 : Int), .int .u16 (y4 : Int), .int .u16 (y5 : Int), .int .u16 (y6 : Int), .int .u16 (y7 : Int)] 23) w3)); have HC3 := Lib.hid (RowU.new 23 w3 [y0, y1, y2, y3, y4, y5, y6, y7]); clear hb)
    | (go_at_call 18; (with_reducible refine (HRd1.out _ HV1.out).mono ?_); rintro e w2 ⟨rfl, hb⟩; have HB2 := Lib.hid (bnx8 HB1.out hb); have HV2 := Lib.hid (HV1.out.below hb); have HR2 := Lib.hid (HR1.out.below hb); have HB2b := Lib.hid (bal8 HB2.out (.cells #[.int .u16 (x0 : Int), .int .u16 (x1 : Int), .int .u16 (x2 : Int), .int .u16 (x3 : Int), .int .u16 (x4 : Int), .int .u16 (x5 : Int), .int .u16 (x6 : Int), .int .u16 (x7 : Int)] 23)); have HV2b := Lib.hid (HV2.out.below (bel8 (.cells #[.int .u16 (x0 : Int), .int .u16 (x1 : Int), .int .u16 (x2 : Int), .int .u16 (x3 : Int), .int .u16 (x4 : Int), .int .u16 (x5 : Int), .int .u16 (x6 : Int), .int .u16 (x7 : Int)] 23) w2)); have HR2b := Lib.hid (HR2.out.below (bel8 (.cells #[.int .u16 (x0 : Int), .int .u16 (x1 : Int), .int .u16 (x2 : Int), .int .u16 (x3 : Int), .int .u16 (x4 : Int), .int .u16 (x5 : Int), .int .u16 (x6 : Int), .int .u16 (x7 : Int)] 23) w2)); have HA2 := Lib.hid (RowU.new 23 w2 [x0, x1, x2, x3, x4, x5, x6, x7]); clear hb)
    | (go_at_call 20; (with_reducible refine (wrap8_any 2 _).mono ?_); rintro e w5 ⟨cs, b, u', x', rfl, hbge, hch, hb⟩; have HCh := Lib.hid hch; have HBg := Lib.hid (ne8 HR3b.out.lt hbge); have HB5 := Lib.hid (bnx8 HB3b.out hb); have HR5 := Lib.hid (HR3b.out.below hb); obtain ⟨c0, c1, c2, c3, c4, c5, c6, c7, f0, f1, f2, f3, f4, f5, f6, f7⟩ := rows8 HR5.out; have hgl5 := HR5.out.lt; clear hb hch hbge))
  refine bodyPost_ret (parse_res (put8_rows HR5.out rfl 0 0 0 0 0 0 0 0) _ (.iface u' x') rfl rfl) rfl ?_
  exact ⟨cs, u', x', rfl, HCh.out _ (put8_other _ _ _ HBg.out _ _ _ _ _ _ _ _), below_put8 (Nat.le_refl _) HB5.out _ _ _ _ _ _ _ _⟩

set_option maxHeartbeats 4000000 in
set_option maxRecDepth 100000 in
theorem parse_e6 (s : ByteArray) (hs : s.size ≤ 10000) (w : World) (hv : V8 w) (k : Nat) (hc : colons8 s.data.toList = some k) (a b : List Nat) (h1 : side8 (s.data.toList.take k) false = some a) (h2 : side8 (s.data.toList.drop (k + 2)) true = some b) (hn : ¬ (a.length + b.length < 8)) : Calls Tryd.prog 10 #[.string s] w (SixPost none w) := by
  obtain ⟨hs1, hs2⟩ := sides_size s k hs
  have HCut := Lib.hid (fun w hv => pair_yes hc hs w hv)
  have ha8 := (side8_len h1).1
  have hb8 := (side8_len h2).1
  obtain ⟨x0, x1, x2, x3, x4, x5, x6, x7, hp⟩ := eight_of8 (padN_len ha8)
  obtain ⟨y0, y1, y2, y3, y4, y5, y6, y7, hq⟩ := eight_of8 (padN_len hb8)
  have HRd1 := Lib.hid (fun w hv => read_ok (s := btx (s.data.toList.take k)) h1 hp hs1 w hv)
  have HRd2 := Lib.hid (fun w hv => read_ok (s := btx (s.data.toList.drop (k + 2))) h2 hq hs2 w hv)
  generalize btx (s.data.toList.take k) = p at hs1 HCut HRd1
  generalize btx (s.data.toList.drop (k + 2)) = q at hs2 HCut HRd2
  have HFit : Hid (∀ w, Calls Tryd.prog 19 #[.int .i64 ((a.length : Int) + (b.length : Int)), .bool true] w fun e w' => e = .returned (.bool false) ∧ w = w') := fits_any (a.length + b.length) true false (by simp [hn])
  clear hc h1 h2 hp hq hs1 hs2
  have HR0 : Hid (RowU 23 (w.alloc (.cells #[.int .u16 0, .int .u16 0, .int .u16 0, .int .u16 0, .int .u16 0, .int .u16 0, .int .u16 0, .int .u16 0] 23)) w.heap.size zero8) := by
    show RowU _ _ _ _
    exact RowU.new 23 w zero8
  have HB0 : Hid (Below w.heap.size w (w.alloc (.cells #[.int .u16 0, .int .u16 0, .int .u16 0, .int .u16 0, .int .u16 0, .int .u16 0, .int .u16 0, .int .u16 0] 23))) := bel8 _ _
  have HV0 : Hid (V8 (w.alloc (.cells #[.int .u16 0, .int .u16 0, .int .u16 0, .int .u16 0, .int .u16 0, .int .u16 0, .int .u16 0, .int .u16 0] 23))) := hv.below (bel8 _ _)
  clear hv
  go_enter Tryd.func10, Tryd.ntmps10
  go_wp2_with (first
    | (go_at_call 17; (with_reducible refine (HCut.out _ HV0.out).mono ?_); rintro e w1 ⟨rfl, hb⟩; have HB1 := Lib.hid (bnx8 HB0.out hb); have HV1 := Lib.hid (HV0.out.below hb); have HR1 := Lib.hid (HR0.out.below hb); clear hb)
    | (go_at_call 18; (with_reducible refine (HRd2.out _ HV2b.out).mono ?_); rintro e w3 ⟨rfl, hb⟩; have HB3 := Lib.hid (bnx8 HB2b.out hb); have HR3 := Lib.hid (HR2b.out.below hb); have HA3 := Lib.hid (HA2.out.below hb); have HB3b := Lib.hid (bal8 HB3.out (.cells #[.int .u16 (y0 : Int), .int .u16 (y1 : Int), .int .u16 (y2 : Int), .int .u16 (y3 : Int), .int .u16 (y4 : Int), .int .u16 (y5 : Int), .int .u16 (y6 : Int), .int .u16 (y7 : Int)] 23)); have HR3b := Lib.hid (HR3.out.below (bel8 (.cells #[.int .u16 (y0 : Int), .int .u16 (y1 : Int), .int .u16 (y2 : Int), .int .u16 (y3 : Int), .int .u16 (y4 : Int), .int .u16 (y5 : Int), .int .u16 (y6 : Int), .int .u16 (y7 : Int)] 23) w3)); have HA3b := Lib.hid (HA3.out.below (bel8 (.cells #[.int .u16 (y0 : Int), .int .u16 (y1 : Int), .int .u16 (y2 : Int), .int .u16 (y3 : Int), .int .u16 (y4 : Int), .int .u16 (y5 : Int), .int .u16 (y6 : Int), .int .u16 (y7 : Int)] 23) w3)); have HC3 := Lib.hid (RowU.new 23 w3 [y0, y1, y2, y3, y4, y5, y6, y7]); clear hb)
    | (go_at_call 18; (with_reducible refine (HRd1.out _ HV1.out).mono ?_); rintro e w2 ⟨rfl, hb⟩; have HB2 := Lib.hid (bnx8 HB1.out hb); have HV2 := Lib.hid (HV1.out.below hb); have HR2 := Lib.hid (HR1.out.below hb); have HB2b := Lib.hid (bal8 HB2.out (.cells #[.int .u16 (x0 : Int), .int .u16 (x1 : Int), .int .u16 (x2 : Int), .int .u16 (x3 : Int), .int .u16 (x4 : Int), .int .u16 (x5 : Int), .int .u16 (x6 : Int), .int .u16 (x7 : Int)] 23)); have HV2b := Lib.hid (HV2.out.below (bel8 (.cells #[.int .u16 (x0 : Int), .int .u16 (x1 : Int), .int .u16 (x2 : Int), .int .u16 (x3 : Int), .int .u16 (x4 : Int), .int .u16 (x5 : Int), .int .u16 (x6 : Int), .int .u16 (x7 : Int)] 23) w2)); have HR2b := Lib.hid (HR2.out.below (bel8 (.cells #[.int .u16 (x0 : Int), .int .u16 (x1 : Int), .int .u16 (x2 : Int), .int .u16 (x3 : Int), .int .u16 (x4 : Int), .int .u16 (x5 : Int), .int .u16 (x6 : Int), .int .u16 (x7 : Int)] 23) w2)); have HA2 := Lib.hid (RowU.new 23 w2 [x0, x1, x2, x3, x4, x5, x6, x7]); clear hb)
    | (go_at_call 19; (with_reducible refine (HFit.out _).mono ?_); rintro e w9 ⟨rfl, rfl⟩)
    | (go_at_call 20; (with_reducible refine (wrap8_any 2 _).mono ?_); rintro e w5 ⟨cs, b, u', x', rfl, hbge, hch, hb⟩; have HCh := Lib.hid hch; have HBg := Lib.hid (ne8 HR3b.out.lt hbge); have HB5 := Lib.hid (bnx8 HB3b.out hb); have HR5 := Lib.hid (HR3b.out.below hb); obtain ⟨c0, c1, c2, c3, c4, c5, c6, c7, f0, f1, f2, f3, f4, f5, f6, f7⟩ := rows8 HR5.out; have hgl5 := HR5.out.lt; clear hb hch hbge))
  refine bodyPost_ret (parse_res (put8_rows HR5.out rfl 0 0 0 0 0 0 0 0) _ (.iface u' x') rfl rfl) rfl ?_
  exact ⟨cs, u', x', rfl, HCh.out _ (put8_other _ _ _ HBg.out _ _ _ _ _ _ _ _), below_put8 (Nat.le_refl _) HB5.out _ _ _ _ _ _ _ _⟩

end Go.Proofs.YtfodkkdggajjaaaDoor

/-
  In this text, one behind the other: SixQuad, YParse, SixRead, YParse2.
-/
import Derived.Laws.BitsAllLaws
import Derived.Test.YtfodkkdggajjaaaGreatDoorG3
/-
  The program's number and quad of layer 8, by their contracts.
-/
namespace Go.Proofs.YtfodkkdggajjaaaGreatDoor
open Go.RowKit

/-- A block of numbers of 16 bits. -/
def RowU (t : TypeId) (w : World) (g : Nat) (c : List Nat) : Prop := w.heap[g]? = some (.cells (c.map fun n : Nat => Value.int .u16 (n : Int)).toArray t (0, 0))
theorem RowU.at {t : TypeId} {w : World} {g : Nat} {c : List Nat} (h : RowU t w g c) {j x : Nat} (hx : c[j]? = some x) : w.cell? ⟨g, j, none⟩ = some (.int .u16 (x : Int)) ∧ w.frozen? ⟨g, j, none⟩ = false := by
  unfold RowU at h
  constructor
  · simp [World.cell?, h, hx]
  · simp [World.frozen?, h]
theorem RowU.lt {t : TypeId} {w : World} {g : Nat} {c : List Nat} (h : RowU t w g c) : g < w.heap.size := (Array.getElem?_eq_some_iff.1 h).1
theorem RowU.below {t : TypeId} {w w' : World} {g : Nat} {c : List Nat} (h : RowU t w g c) (hb : Below w.heap.size w w') : RowU t w' g c := (hb.block g h.lt).trans h
theorem RowU.put {t : TypeId} {w : World} {g : Nat} {c : List Nat} (h : RowU t w g c) (j x : Nat) : RowU t (w.setCell ⟨g, j, none⟩ (.int .u16 (x : Int))) g (c.set j x) := by
  unfold RowU
  rw [heap_setCell_same w g j _ _ _ h]
  congr 2
  apply Array.toList_inj.1
  simp [List.map_set]
theorem RowU.other {t : TypeId} {w : World} {g : Nat} {c : List Nat} (h : RowU t w g c) {a : Addr} (ha : g ≠ a.block) (u : Value) : RowU t (w.setCell a u) g c := by
  unfold RowU
  rw [Below.heap_setCell _ _ _ _ ha]
  exact h
theorem RowU.new (t : TypeId) (w : World) (c : List Nat) : RowU t (w.alloc (.cells (c.map fun n : Nat => Value.int .u16 (n : Int)).toArray t)) w.heap.size c := heap_alloc_new w _
/-- Numbers, and noughts up to so many. -/
def padN (N : Nat) (ns : List Nat) : List Nat := ns ++ List.replicate (N - ns.length) 0
theorem padN_len {N : Nat} {ns : List Nat} (h : ns.length ≤ N) : (padN N ns).length = N := by simp [padN]; omega
theorem padN_set {N : Nat} {ns : List Nat} (h : ns.length < N) (x : Nat) : (padN N ns).set ns.length x = padN N (ns ++ [x]) := by
  unfold padN
  rw [List.set_append_right _ _ (Nat.le_refl _), Nat.sub_self, List.length_append, List.append_assoc]
  congr 1
  obtain ⟨k, hk⟩ : ∃ k, N - ns.length = k + 1 := ⟨N - ns.length - 1, by omega⟩
  rw [hk, List.replicate_succ, List.set_cons_zero, show N - (ns.length + [x].length) = k by simp; omega]
  rfl
theorem padN_at {N : Nat} {ns : List Nat} {j : Nat} (h : j < N) (hn : ns.length ≤ N) : (padN N ns)[j]? = some ((padN N ns).getD j 0) := by
  rw [List.getD_eq_getElem?_getD, List.getElem?_eq_getElem (by rw [padN_len hn]; exact h)]; rfl

theorem head8 (s : ByteArray) (h : 0 < s.size) : s.data.toList.head? = some (s[0]'h) := by
  have := drop_byte s 0 h
  rw [List.drop_zero] at this
  rw [this]; rfl
set_option maxHeartbeats 1000000 in
theorem number_some {s : ByteArray} {n : Nat} (h : small8 s.data.toList = some n) (hs : s.size ≤ 10000) (w : World) :
    Calls Tryz.prog 36 #[.string s] w fun e w' => e = .returned (.tuple #[.int .u16 (n : Int), .bool true]) ∧ Below w.heap.size w w' := by
  have hl : s.data.toList.length = s.size := by simp
  have hn := small8_le h
  have hno : ¬ (1 < s.data.toList.length ∧ s.data.toList.head? = some 48) := fun hh => by rw [small8_nought hh] at h; cases h
  have HC := Lib.hid (pub10_some ((small8_lib hno).symm.trans h) hs)
  have HNo := Lib.hid hno
  clear h hno
  by_cases h1 : 1 < s.size
  · have h0 : 0 < s.size := by omega
    have hc : (((s[0]'h0).toNat : Int) == 48) = false := by
      rw [beq_eq_false_iff_ne]
      intro e
      refine HNo.out ⟨by omega, ?_⟩
      rw [head8 s h0]
      congr 1
      rw [← UInt8.toNat_inj]
      show (s[0]'h0).toNat = 48
      omega
    clear hl
    go_enter Tryz.func36, Tryz.ntmps36
    go_wp2_with (go_at_call 37; refine (HC.out _).mono ?_; rintro e w1 ⟨rfl, hb⟩; have HB := Lib.hid hb; clear hb)
    go_region
    go_wp2
    go_ret2
    exact ⟨rfl, HB.out.drew⟩
  · clear hl
    go_enter Tryz.func36, Tryz.ntmps36
    go_wp2_with (go_at_call 37; refine (HC.out _).mono ?_; rintro e w1 ⟨rfl, hb⟩; have HB := Lib.hid hb; clear hb)
    go_region
    go_wp2
    go_ret2
    exact ⟨rfl, HB.out.drew⟩
set_option maxHeartbeats 1000000 in
theorem number_none {s : ByteArray} (h : small8 s.data.toList = none) (hs : s.size ≤ 10000) (w : World) (hv : V8 w) :
    Calls Tryz.prog 36 #[.string s] w fun e w' => ∃ v : Nat, e = .returned (.tuple #[.int .u16 (v : Int), .bool false]) ∧ Below w.heap.size w w' := by
  have hl : s.data.toList.length = s.size := by simp
  have HV := Lib.hid hv
  clear hv
  by_cases h1 : 1 < s.size
  · have h0 : 0 < s.size := by omega
    by_cases h48 : ((s[0]'h0).toNat : Int) = 48
    · have hc : (((s[0]'h0).toNat : Int) == 48) = true := beq_iff_eq.2 h48
      clear h48 h hl
      go_enter Tryz.func36, Tryz.ntmps36
      go_wp2
      go_ret2
      exact ⟨0, rfl, Below.refl _ _⟩
    · have hc : (((s[0]'h0).toNat : Int) == 48) = false := beq_eq_false_iff_ne.2 h48
      have hno : ¬ (1 < s.data.toList.length ∧ s.data.toList.head? = some 48) := by
        rintro ⟨_, e⟩
        rw [head8 s h0] at e
        exact h48 (by rw [Option.some.inj e]; rfl)
      have HC := Lib.hid (fun w hv => pub10_none ((small8_lib hno).symm.trans h) hs w hv)
      clear h48 h hl hno
      go_enter Tryz.func36, Tryz.ntmps36
      go_wp2_with (go_at_call 37; refine (HC.out _ HV.out).mono ?_; rintro e w1 ⟨v, t1, p1, rfl, hv1, hb⟩; have HB := Lib.hid hb; clear hb)
      go_region
      go_wp2
      go_ret2
      exact ⟨v, rfl, HB.out.drew⟩
  · have hno : ¬ (1 < s.data.toList.length ∧ s.data.toList.head? = some 48) := fun hh => by omega
    have HC := Lib.hid (fun w hv => pub10_none ((small8_lib hno).symm.trans h) hs w hv)
    clear h hl hno
    go_enter Tryz.func36, Tryz.ntmps36
    go_wp2_with (go_at_call 37; refine (HC.out _ HV.out).mono ?_; rintro e w1 ⟨v, t1, p1, rfl, hv1, hb⟩; have HB := Lib.hid hb; clear hb)
    go_region
    go_wp2
    go_ret2
    exact ⟨v, rfl, HB.out.drew⟩

/-! The quad. -/
theorem quad8_len {l : List UInt8} (h : (cut7 46 l).length ≠ 4) : quad8 l = none := by
  unfold quad8
  split
  · rename_i he; rw [he] at h; simp at h
  · rfl
theorem quad8_four {l a b c d : List UInt8} (h : cut7 46 l = [a, b, c, d]) : quad8 l = (match small8 a, small8 b, small8 c, small8 d with
    | some x, some y, some z, some t => some (256 * x + y, 256 * z + t)
    | _, _, _, _ => none) := by
  unfold quad8; rw [h]; rfl
theorem quad8_no {l a b c d x : List UInt8} (h : cut7 46 l = [a, b, c, d]) {k : Nat} (hx : [a, b, c, d][k]? = some x) (hn : small8 x = none) : quad8 l = none := by
  rw [quad8_four h]
  match k, hx with
  | 0, hx => cases hx; rw [hn]
  | 1, hx => cases hx; rw [hn]; cases small8 a <;> rfl
  | 2, hx => cases hx; rw [hn]; cases small8 a <;> cases small8 b <;> rfl
  | 3, hx => cases hx; rw [hn]; cases small8 a <;> cases small8 b <;> cases small8 c <;> rfl
theorem or8 (x y : Nat) (hx : x ≤ 255) (hy : y ≤ 255) : bits .or .u16 ((x : Int) * 256) (y : Int) = ((256 * x + y : Nat) : Int) := by
  have h := u16_or_nat (x * 256) y (by omega) (by omega)
  have h2 := Nat.two_pow_add_eq_or_of_lt (i := 8) (b := y) (by omega) x
  have e : (((x * 256 : Nat) : Int)) = (x : Int) * 256 := by omega
  rw [e] at h
  rw [h, Nat.mul_comm x 256, ← h2]
theorem map_some_take {ps : List (List UInt8)} {ns : List Nat} {k n : Nat} {x : List UInt8} (h : (ps.take k).map small8 = ns.map some) (hx : ps[k]? = some x) (hn : small8 x = some n) : (ps.take (k + 1)).map small8 = (ns ++ [n]).map some := by
  rw [List.take_add_one, hx, List.map_append, h, List.map_append]
  simp [hn]
theorem four_of {a b c d : List UInt8} {ns : List Nat} (h : [a, b, c, d].map small8 = ns.map some) : ∃ n0 n1 n2 n3, ns = [n0, n1, n2, n3] ∧ small8 a = some n0 ∧ small8 b = some n1 ∧ small8 c = some n2 ∧ small8 d = some n3 := by
  have hl : ns.length = 4 := by have := congrArg List.length h; simpa using this.symm
  match ns, hl with
  | [n0, n1, n2, n3], _ =>
    simp only [List.map_cons, List.map_nil, List.cons.injEq, and_true] at h
    exact ⟨n0, n1, n2, n3, rfl, h⟩
/-- Four numbers and what they stand for. -/
def QOut : Option (Nat × Nat) → Value
  | none => .tuple #[.int .u16 0, .int .u16 0, .bool false]
  | some (x, y) => .tuple #[.int .u16 (x : Int), .int .u16 (y : Int), .bool true]
set_option maxHeartbeats 2000000 in
set_option maxRecDepth 100000 in
theorem quad_any (s : ByteArray) (hs : s.size ≤ 10000) (w : World) (hv : V8 w) (R : Option (Nat × Nat)) (hR : quad8 s.data.toList = R) :
    Calls Tryz.prog 23 #[.string s] w fun e w' => e = .returned (QOut R) ∧ Below w.heap.size w w' := by
  have HV := Lib.hid hv
  clear hv
  by_cases h4 : (cut7 46 s.data.toList).length = 4
  · have HF := Lib.hid (spl5_few (show (cut7 46 s.data.toList).length ≤ 4 by omega))
    have HMm : Hid (∀ p ∈ cut7 46 s.data.toList, p.length ≤ 10000) := fun p hp => by
      have h1 := cut7_mem hp
      have h2 : s.data.toList.length = s.size := by simp
      omega
    obtain ⟨ps, hps⟩ : ∃ ps, cut7 46 s.data.toList = ps := ⟨_, rfl⟩
    have HPs := Lib.hid hps
    rw [hps] at h4 HF HMm
    have HR := Lib.hid hR
    clear hR hps
    go_enter Tryz.func23, Tryz.ntmps23
    go_wp2_with (go_at_call 35; refine (zsplit_any _ _ hs).mono ?_; rw [HF.out]; rintro e w2 ⟨A, c, rfl, hcap, hstr, hb⟩; have HB := Lib.hid hb; have HSt := Lib.hid hstr; clear hstr hb)
    have HRow : Hid (RowU 82 (w2.alloc (.cells #[.int .u16 0, .int .u16 0, .int .u16 0, .int .u16 0] 82)) w2.heap.size (padN 4 [])) := by
      show RowU _ _ _ _
      exact RowU.new 82 w2 [0, 0, 0, 0]
    have HB2 : Hid (Below w2.heap.size w2 (w2.alloc (.cells #[.int .u16 0, .int .u16 0, .int .u16 0, .int .u16 0] 82))) := by
      show Below _ _ _
      exact (Below.refl _ _).alloc (Nat.le_refl _) _
    generalize (w2.alloc (.cells #[.int .u16 0, .int .u16 0, .int .u16 0, .int .u16 0] 82)) = W at HRow HB2 ⊢
    obtain ⟨g, hg⟩ : ∃ g, w2.heap.size = g := ⟨_, rfl⟩
    rw [hg] at HRow HB2 ⊢
    have HG := Lib.hid hg
    clear hg
    go_loopw [18] (fun i wr => ∃ (k : Nat) (ns : List Nat), k ≤ 4 ∧ i = .int .i64 k ∧ ns.length = k ∧ Hid ((ps.take k).map small8 = ns.map some) ∧ RowU 82 wr g (padN 4 ns) ∧ Below g w2 wr) (fun i _ => 4 - (intOf i).toNat)
    case atStart => exact ⟨0, [], by omega, rfl, rfl, Lib.hid rfl, HRow.out, HB2.out⟩
    case round =>
      obtain ⟨k, ns, hk, rfl, hnl, HNs, hrow, hbl⟩ := hrel
      have hgl := hrow.lt
      have HRw := Lib.hid hrow
      have HBl := Lib.hid hbl
      have HBw : Hid (Below w.heap.size w wr) := by
        show Below w.heap.size w wr
        exact bnx8 HB.out (HG.out ▸ hbl)
      have HVr := Lib.hid (HV.out.below HBw.out)
      have HSr : Hid (Strs wr A (ps.map btx)) := by
        show Strs wr A (ps.map btx)
        exact HSt.out.below (HG.out ▸ hbl)
      clear hrow hbl
      by_cases hlt : k < 4
      · have hx : ps[k]? = some (ps[k]'(by omega)) := List.getElem?_eq_getElem (by omega)
        have HLx := Lib.hid (HMm.out _ (List.getElem_mem (show k < ps.length by omega)))
        obtain ⟨x, hxx⟩ : ∃ x, ps[k]'(by omega) = x := ⟨_, rfl⟩
        rw [hxx] at hx HLx
        have HX := Lib.hid hx
        obtain ⟨b, off, rfl, hblt, hc⟩ := strs_at HSr.out hx
        have hxs : (btx x).size ≤ 10000 := by rw [btx_size]; exact HLx.out
        clear hxx hx
        cases hsm : small8 x with
        | none =>
          have HNn : Hid (R = none) := by
            show R = none
            rw [← HR.out]
            match ps, h4, HPs, HX with
            | [a1, a2, a3, a4], _, HPs, HX => exact quad8_no HPs.out HX.out hsm
          have HCn := Lib.hid (fun w hv => number_none (s := btx x) hsm hxs w hv)
          clear hsm
          go_wp2_with (go_at_call 36; refine (HCn.out _ HVr.out).mono ?_; rintro e w3 ⟨v, rfl, hb⟩; have HB3 := Lib.hid (bnx8 HBw.out hb); clear hb)
          go_ret3
          exact ⟨by rw [HNn.out]; rfl, HB3.out⟩
        | some n =>
          have hn := small8_le hsm
          have HN2 := Lib.hid (map_some_take HNs.out HX.out hsm)
          have HCn := Lib.hid (number_some (s := btx x) hsm hxs)
          clear hsm
          go_wp2_with (go_at_call 36; refine (HCn.out _).mono ?_; rintro e w3 ⟨rfl, hb⟩; have HRw3 := Lib.hid (HRw.out.below hb); have hgl3 := HRw3.out.lt; obtain ⟨hcell, hfz⟩ := HRw3.out.at (padN_at (show k < 4 from hlt) (by omega)); have HB3 := Lib.hid (HBl.out.trans (hb.mono (Nat.le_of_lt hgl))); clear hb)
          go_roundw
          case rel => exact ⟨k + 1, ns ++ [n], by omega, by go_num, by simp [hnl], HN2, by have := HRw3.out.put k n; rw [← hnl, padN_set (by omega)] at this; rw [← hnl]; exact this, HB3.out.setCell (Nat.le_refl _) _⟩
          case measure => simp [intOf]; omega
      · obtain rfl : k = 4 := by omega
        have hps : ∃ a b c d, ps = [a, b, c, d] := by
          match ps, h4 with
          | [a, b, c, d], _ => exact ⟨a, b, c, d, rfl⟩
        obtain ⟨a1, a2, a3, a4, rfl⟩ := hps
        obtain ⟨n0, n1, n2, n3, rfl, e0, e1, e2, e3⟩ := four_of HNs.out
        have HQ : Hid (R = some (256 * n0 + n1, 256 * n2 + n3)) := by
          show R = _
          rw [← HR.out, quad8_four HPs.out, e0, e1, e2, e3]
        have b0 := small8_le e0
        have b1 := small8_le e1
        have b2 := small8_le e2
        have b3 := small8_le e3
        clear e0 e1 e2 e3
        obtain ⟨c0, f0⟩ := HRw.out.at (show (padN 4 [n0, n1, n2, n3])[0]? = some n0 from rfl)
        obtain ⟨c1, f1⟩ := HRw.out.at (show (padN 4 [n0, n1, n2, n3])[1]? = some n1 from rfl)
        obtain ⟨c2, f2⟩ := HRw.out.at (show (padN 4 [n0, n1, n2, n3])[2]? = some n2 from rfl)
        obtain ⟨c3, f3⟩ := HRw.out.at (show (padN 4 [n0, n1, n2, n3])[3]? = some n3 from rfl)
        have o1 := or8 n0 n1 b0 b1
        have o2 := or8 n2 n3 b2 b3
        go_wp2
        go_region
        go_wp2
        go_ret3
        exact ⟨by rw [HQ.out]; rfl, HBw.out.drew⟩
  · have hq := quad8_len h4
    rw [hR] at hq
    subst hq
    have HL : Hid ((spl5 s.data.toList).length ≠ 4) := by
      show (spl5 s.data.toList).length ≠ 4
      by_cases h5 : (cut7 46 s.data.toList).length ≤ 4
      · rw [spl5_few h5]; exact h4
      · rw [spl5_many h5]; decide
    clear hR h4
    obtain ⟨ps, hps⟩ : ∃ ps, spl5 s.data.toList = ps := ⟨_, rfl⟩
    rw [hps] at HL
    have HPs := Lib.hid hps
    clear hps
    go_enter Tryz.func23, Tryz.ntmps23
    go_wp2_with (go_at_call 35; refine (zsplit_any _ _ hs).mono ?_; rw [HPs.out]; rintro e w2 ⟨A, c, rfl, hcap, hstr, hb⟩; have HB := Lib.hid hb; have hne : ((ps.length : Int) != 4) = true := bne_iff_ne.2 (by have := HL.out; omega); clear hstr hb)
    go_ret3
    exact ⟨rfl, HB.out⟩
end Go.Proofs.YtfodkkdggajjaaaGreatDoor

/-
  The document's Parse of layer 8, by its contract.
-/
namespace Go.Proofs.YtfodkkdggajjaaaGreatDoor
open Go.RowKit

/-- A block that holds eight pieces. -/
def Row8 (w : World) (g : Nat) (c : List Nat) : Prop := w.heap[g]? = some (.cells (c.map fun n : Nat => Value.int .u16 (n : Int)).toArray 24 (0, 0))
theorem Row8.at {w : World} {g : Nat} {c : List Nat} (h : Row8 w g c) {j x : Nat} (hx : c[j]? = some x) : w.cell? ⟨g, j, none⟩ = some (.int .u16 (x : Int)) ∧ w.frozen? ⟨g, j, none⟩ = false := by
  unfold Row8 at h
  constructor
  · simp [World.cell?, h, hx]
  · simp [World.frozen?, h]
theorem Row8.lt {w : World} {g : Nat} {c : List Nat} (h : Row8 w g c) : g < w.heap.size := (Array.getElem?_eq_some_iff.1 h).1
theorem Row8.below {w w' : World} {g : Nat} {c : List Nat} (h : Row8 w g c) (hb : Below w.heap.size w w') : Row8 w' g c := (hb.block g h.lt).trans h
theorem Row8.put {w : World} {g : Nat} {c : List Nat} (h : Row8 w g c) (j x : Nat) : Row8 (w.setCell ⟨g, j, none⟩ (.int .u16 (x : Int))) g (c.set j x) := by
  unfold Row8
  rw [heap_setCell_same w g j _ _ _ h]
  congr 2
  apply Array.toList_inj.1
  simp [List.map_set]
theorem Row8.other {w : World} {g : Nat} {c : List Nat} (h : Row8 w g c) {a : Addr} (ha : g ≠ a.block) (u : Value) : Row8 (w.setCell a u) g c := by
  unfold Row8
  rw [Below.heap_setCell _ _ _ _ ha]
  exact h
def agg8 (c : List Nat) : Value := .agg (c.map fun n : Nat => Value.int .u16 (n : Int)).toArray
def zero8 : List Nat := [0, 0, 0, 0, 0, 0, 0, 0]
def P8Post (o : Option (List Nat)) (w : World) (e : Ending) (w' : World) : Prop := match o with
  | none => e = .returned (.tuple #[agg8 zero8, .int .i64 2]) ∧ Below w.heap.size w w'
  | some c => e = .returned (.tuple #[agg8 c, .int .i64 0]) ∧ Below w.heap.size w w'
theorem list8_any (s : ByteArray) (last : Bool) (w : World) (hs : s.size ≤ 5000) : Calls Tryz.prog 15 #[.string s, .bool last] w (LPost (list8 s.data.toList last) w) := by
  have hsl : s.data.toList.length = s.size := by simp
  by_cases h : s.size = 0
  · have e : s.data.toList = [] := List.eq_nil_of_length_eq_zero (by omega)
    have es : s = ⟨#[]⟩ := by
      apply ByteArray.ext
      exact Array.toList_inj.1 e
    subst es
    exact list8_none last w
  · unfold list8
    rw [if_neg (fun e => by rw [e] at hsl; simp at hsl; omega)]
    exact list8_some s last w hs (by omega)
theorem list8_is {s : ByteArray} {last : Bool} {o : Option (List Nat)} (h : list8 s.data.toList last = o) (w : World) (hs : s.size ≤ 5000) : Calls Tryz.prog 15 #[.string s, .bool last] w (LPost o w) := h ▸ list8_any s last w hs
theorem colons8_is {s : ByteArray} {n : Int} (h : optI (colons8 s.data.toList) = n) (w : World) (hs : s.size ≤ 10000) : Calls Tryz.prog 14 #[.string s] w fun e w' => e = .returned (.int .i64 n) ∧ w = w' := h ▸ colons8_any s w hs
set_option maxHeartbeats 4000000 in
set_option maxRecDepth 100000 in
theorem parse8_e1 (s : ByteArray) (w : World) (hs : s.size ≤ 4000) (hc : colons8 s.data.toList = none) (hl : list8 s.data.toList true = none) :
    Calls Tryz.prog 6 #[.string s] w (P8Post none w) := by
  have HCo : Hid (optI (colons8 s.data.toList) = -1) := by show optI (colons8 s.data.toList) = -1; rw [hc]; rfl
  have HLi := Lib.hid hl
  clear hc hl
  obtain ⟨W, hW⟩ : ∃ W, (w.alloc (.cells #[.int .u16 0, .int .u16 0, .int .u16 0, .int .u16 0, .int .u16 0, .int .u16 0, .int .u16 0, .int .u16 0] 24)).alloc (.cells #[.int .u16 0, .int .u16 0, .int .u16 0, .int .u16 0, .int .u16 0, .int .u16 0, .int .u16 0, .int .u16 0] 24) = W := ⟨_, rfl⟩
  have HB0 : Hid (Below w.heap.size w W) := by show Below w.heap.size w W; rw [← hW]; exact ((Below.refl _ _).alloc (Nat.le_refl _) _).alloc (by simp) _
  have HWs : Hid (W.heap.size = w.heap.size + 2) := by show W.heap.size = w.heap.size + 2; rw [← hW]; simp
  have HR0 : Hid (Row8 W w.heap.size zero8) := by
    show W.heap[w.heap.size]? = _
    rw [← hW, Below.heap_alloc _ _ _ (by simp)]; exact heap_alloc_new w _
  have HR1 : Hid (Row8 W (w.heap.size + 1) zero8) := by
    show W.heap[w.heap.size + 1]? = _
    rw [← hW]
    have := heap_alloc_new (w.alloc (.cells #[.int .u16 0, .int .u16 0, .int .u16 0, .int .u16 0, .int .u16 0, .int .u16 0, .int .u16 0, .int .u16 0] 24)) (.cells #[.int .u16 0, .int .u16 0, .int .u16 0, .int .u16 0, .int .u16 0, .int .u16 0, .int .u16 0, .int .u16 0] 24)
    simpa [zero8] using this
  go_enter Tryz.func6, Tryz.ntmps6
  go_wp2_with (first
    | (go_at_call 14; refine (colons8_is HCo.out _ (by omega)).mono ?_; rintro e w' ⟨rfl, rfl⟩)
    | (go_at_call 15; refine (list8_is HLi.out _ (by omega)).mono ?_; rintro e w1 ⟨rfl, hb1⟩
       have HB1 := Lib.hid hb1
       have r0 := HR0.out.below hb1
       have r1 := HR1.out.below hb1
       obtain ⟨p0, _⟩ := r1.at (j := 0) (x := 0) rfl
       obtain ⟨q0, z0⟩ := r0.at (j := 0) (x := 0) rfl
       obtain ⟨p1, _⟩ := r1.at (j := 1) (x := 0) rfl
       obtain ⟨q1, z1⟩ := r0.at (j := 1) (x := 0) rfl
       obtain ⟨p2, _⟩ := r1.at (j := 2) (x := 0) rfl
       obtain ⟨q2, z2⟩ := r0.at (j := 2) (x := 0) rfl
       obtain ⟨p3, _⟩ := r1.at (j := 3) (x := 0) rfl
       obtain ⟨q3, z3⟩ := r0.at (j := 3) (x := 0) rfl
       obtain ⟨p4, _⟩ := r1.at (j := 4) (x := 0) rfl
       obtain ⟨q4, z4⟩ := r0.at (j := 4) (x := 0) rfl
       obtain ⟨p5, _⟩ := r1.at (j := 5) (x := 0) rfl
       obtain ⟨q5, z5⟩ := r0.at (j := 5) (x := 0) rfl
       obtain ⟨p6, _⟩ := r1.at (j := 6) (x := 0) rfl
       obtain ⟨q6, z6⟩ := r0.at (j := 6) (x := 0) rfl
       obtain ⟨p7, _⟩ := r1.at (j := 7) (x := 0) rfl
       obtain ⟨q7, z7⟩ := r0.at (j := 7) (x := 0) rfl
       clear r0 r1 hb1))
  refine bodyPost_ret (v := .tuple #[agg8 zero8, .int .i64 2]) ?_ rfl ?_
  · simp [results, Tryz.results6, go_sem, agg8, zero8, q0, q1, q2, q3, q4, q5, q6, q7]
  · refine ⟨rfl, ?_⟩
    have hb := HB0.out.trans (HB1.out.mono HB0.out.size)
    exact (((((((hb.setCell (by simp) _).setCell (by simp) _).setCell (by simp) _).setCell (by simp) _).setCell (by simp) _).setCell (by simp) _).setCell (by simp) _).setCell (by simp) _

set_option maxHeartbeats 4000000 in
set_option maxRecDepth 100000 in
theorem parse8_e2 (s : ByteArray) (w : World) (hs : s.size ≤ 4000) (l : List Nat) (hc : colons8 s.data.toList = none) (hl : list8 s.data.toList true = some l) (h8 : l.length ≠ 8) (hll : l.length ≤ 10000) :
    Calls Tryz.prog 6 #[.string s] w (P8Post none w) := by
  have HCo : Hid (optI (colons8 s.data.toList) = -1) := by show optI (colons8 s.data.toList) = -1; rw [hc]; rfl
  have HLi := Lib.hid hl
  have h8i : ((l.length : Int) != 8) = true := bne_iff_ne.2 (by omega)
  clear hc hl
  obtain ⟨W, hW⟩ : ∃ W, (w.alloc (.cells #[.int .u16 0, .int .u16 0, .int .u16 0, .int .u16 0, .int .u16 0, .int .u16 0, .int .u16 0, .int .u16 0] 24)).alloc (.cells #[.int .u16 0, .int .u16 0, .int .u16 0, .int .u16 0, .int .u16 0, .int .u16 0, .int .u16 0, .int .u16 0] 24) = W := ⟨_, rfl⟩
  have HB0 : Hid (Below w.heap.size w W) := by show Below w.heap.size w W; rw [← hW]; exact ((Below.refl _ _).alloc (Nat.le_refl _) _).alloc (by simp) _
  have HWs : Hid (W.heap.size = w.heap.size + 2) := by show W.heap.size = w.heap.size + 2; rw [← hW]; simp
  have HR0 : Hid (Row8 W w.heap.size zero8) := by
    show W.heap[w.heap.size]? = _
    rw [← hW, Below.heap_alloc _ _ _ (by simp)]; exact heap_alloc_new w _
  have HR1 : Hid (Row8 W (w.heap.size + 1) zero8) := by
    show W.heap[w.heap.size + 1]? = _
    rw [← hW]
    have := heap_alloc_new (w.alloc (.cells #[.int .u16 0, .int .u16 0, .int .u16 0, .int .u16 0, .int .u16 0, .int .u16 0, .int .u16 0, .int .u16 0] 24)) (.cells #[.int .u16 0, .int .u16 0, .int .u16 0, .int .u16 0, .int .u16 0, .int .u16 0, .int .u16 0, .int .u16 0] 24)
    simpa [zero8] using this
  go_enter Tryz.func6, Tryz.ntmps6
  go_wp2_with (first
    | (go_at_call 14; refine (colons8_is HCo.out _ (by omega)).mono ?_; rintro e w' ⟨rfl, rfl⟩)
    | (go_at_call 15; refine (list8_is HLi.out _ (by omega)).mono ?_; rintro e w1 ⟨v1, rfl, hm1, hb1⟩
       obtain ⟨A1, c1, hv1⟩ := hm1.shape
       subst hv1
       have HB1 := Lib.hid hb1
       have r0 := HR0.out.below hb1
       have r1 := HR1.out.below hb1
       obtain ⟨p0, _⟩ := r1.at (j := 0) (x := 0) rfl
       obtain ⟨q0, z0⟩ := r0.at (j := 0) (x := 0) rfl
       obtain ⟨p1, _⟩ := r1.at (j := 1) (x := 0) rfl
       obtain ⟨q1, z1⟩ := r0.at (j := 1) (x := 0) rfl
       obtain ⟨p2, _⟩ := r1.at (j := 2) (x := 0) rfl
       obtain ⟨q2, z2⟩ := r0.at (j := 2) (x := 0) rfl
       obtain ⟨p3, _⟩ := r1.at (j := 3) (x := 0) rfl
       obtain ⟨q3, z3⟩ := r0.at (j := 3) (x := 0) rfl
       obtain ⟨p4, _⟩ := r1.at (j := 4) (x := 0) rfl
       obtain ⟨q4, z4⟩ := r0.at (j := 4) (x := 0) rfl
       obtain ⟨p5, _⟩ := r1.at (j := 5) (x := 0) rfl
       obtain ⟨q5, z5⟩ := r0.at (j := 5) (x := 0) rfl
       obtain ⟨p6, _⟩ := r1.at (j := 6) (x := 0) rfl
       obtain ⟨q6, z6⟩ := r0.at (j := 6) (x := 0) rfl
       obtain ⟨p7, _⟩ := r1.at (j := 7) (x := 0) rfl
       obtain ⟨q7, z7⟩ := r0.at (j := 7) (x := 0) rfl
       clear r0 r1 hb1 hm1))
  refine bodyPost_ret (v := .tuple #[agg8 zero8, .int .i64 2]) ?_ rfl ?_
  · simp [results, Tryz.results6, go_sem, agg8, zero8, q0, q1, q2, q3, q4, q5, q6, q7]
  · refine ⟨rfl, ?_⟩
    have hb := HB0.out.trans (HB1.out.mono HB0.out.size)
    exact (((((((hb.setCell (by simp) _).setCell (by simp) _).setCell (by simp) _).setCell (by simp) _).setCell (by simp) _).setCell (by simp) _).setCell (by simp) _).setCell (by simp) _

theorem set_step8 {l z : List Nat} (hl : l.length = 8) (hz : z.length = 8) {i x : Nat} (hi : i < 8) (hx : l[i]? = some x) : (l.take i ++ z.drop i).set i x = l.take (i + 1) ++ z.drop (i + 1) := by
  have h1 : (l.take i).length = i := by rw [List.length_take]; omega
  obtain ⟨hi2, hx2⟩ := List.getElem?_eq_some_iff.1 hx
  rw [List.set_append_right _ _ (by omega), h1, Nat.sub_self, List.drop_eq_getElem_cons (by omega), List.set_cons_zero, List.take_succ_eq_append_getElem hi2, hx2]
  simp
theorem MadeH.cellAt {B : Nat} {w : World} {v : Value} {l : List Nat} (h : MadeH B w v l) {i x : Nat} (hx : l[i]? = some x) : ∃ g c, v = .slice (some ⟨g, 0, none⟩) l.length c ∧ B ≤ g ∧ w.cell? ⟨g, i, none⟩ = some (.int .u16 (x : Int)) := by
  have h' : w.ownsRow B 23 1 v l.length (l.map fun n : Nat => Value.int .u16 (n : Int)) := h
  obtain ⟨hi, _⟩ := List.getElem?_eq_some_iff.1 hx
  rcases h.2 with ⟨_, h0⟩ | ⟨g, cap, cur, rfl, hB, _⟩
  · omega
  · refine ⟨g, cap, rfl, hB, ?_⟩
    rw [h'.cellAt (g := g) i (by simpa using hi), List.getElem?_map, hx]; rfl
theorem MadeH.setOther {B : Nat} {w : World} {v : Value} {l : List Nat} (h : MadeH B w v l) {a : Addr} (ha : a.block < B) (u : Value) : MadeH B (w.setCell a u) v l := ownsRow_setCell_below h ha u

set_option maxHeartbeats 4000000 in
set_option maxRecDepth 100000 in
theorem parse8_s1 (s : ByteArray) (w : World) (hs : s.size ≤ 4000) (x0 x1 x2 x3 x4 x5 x6 x7 : Nat) (hc : colons8 s.data.toList = none) (hl : list8 s.data.toList true = some [x0, x1, x2, x3, x4, x5, x6, x7]) :
    Calls Tryz.prog 6 #[.string s] w (P8Post (some [x0, x1, x2, x3, x4, x5, x6, x7]) w) := by
  have HCo : Hid (optI (colons8 s.data.toList) = -1) := by show optI (colons8 s.data.toList) = -1; rw [hc]; rfl
  have HLi := Lib.hid hl
  clear hc hl
  obtain ⟨W, hW⟩ : ∃ W, (w.alloc (.cells #[.int .u16 0, .int .u16 0, .int .u16 0, .int .u16 0, .int .u16 0, .int .u16 0, .int .u16 0, .int .u16 0] 24)).alloc (.cells #[.int .u16 0, .int .u16 0, .int .u16 0, .int .u16 0, .int .u16 0, .int .u16 0, .int .u16 0, .int .u16 0] 24) = W := ⟨_, rfl⟩
  have HB0 : Hid (Below w.heap.size w W) := by show Below w.heap.size w W; rw [← hW]; exact ((Below.refl _ _).alloc (Nat.le_refl _) _).alloc (by simp) _
  have HWs : Hid (W.heap.size = w.heap.size + 2) := by show W.heap.size = w.heap.size + 2; rw [← hW]; simp
  have HR0 : Hid (Row8 W w.heap.size zero8) := by
    show W.heap[w.heap.size]? = _
    rw [← hW, Below.heap_alloc _ _ _ (by simp)]; exact heap_alloc_new w _
  have HR1 : Hid (Row8 W (w.heap.size + 1) zero8) := by
    show W.heap[w.heap.size + 1]? = _
    rw [← hW]
    have := heap_alloc_new (w.alloc (.cells #[.int .u16 0, .int .u16 0, .int .u16 0, .int .u16 0, .int .u16 0, .int .u16 0, .int .u16 0, .int .u16 0] 24)) (.cells #[.int .u16 0, .int .u16 0, .int .u16 0, .int .u16 0, .int .u16 0, .int .u16 0, .int .u16 0, .int .u16 0] 24)
    simpa [zero8] using this
  go_enter Tryz.func6, Tryz.ntmps6
  go_wp2_with (first
    | (go_at_call 14; refine (colons8_is HCo.out _ (by omega)).mono ?_; rintro e w' ⟨rfl, rfl⟩)
    | (go_at_call 15; refine (list8_is HLi.out _ (by omega)).mono ?_; rintro e w1 ⟨v1, rfl, hm1, hb1⟩
       obtain ⟨g1, c1, hv1, hB1, _⟩ := hm1.cellAt (i := 0) (x := x0) rfl
       rw [show [x0, x1, x2, x3, x4, x5, x6, x7].length = 8 from rfl] at hv1
       subst hv1
       have HM1 := Lib.hid hm1
       have HB1 := Lib.hid hb1
       clear hb1 hm1))
  obtain ⟨l, hl⟩ : ∃ l, [x0, x1, x2, x3, x4, x5, x6, x7] = l := ⟨_, rfl⟩
  have HL := Lib.hid hl
  have HLen : Hid (l.length = 8) := by show l.length = 8; rw [← hl]; rfl
  rw [hl] at HM1
  clear hl
  go_loopw [8] (fun v8 wr => ∃ i : Nat, i ≤ 8 ∧ v8 = .int .i64 i ∧ Row8 wr (w.heap.size + 1) (l.take i ++ zero8.drop i) ∧ Row8 wr w.heap.size zero8 ∧ MadeH W.heap.size wr (.slice (some ⟨g1, 0, none⟩) 8 c1) l ∧ Below w.heap.size w wr) (fun v8 _ => 8 - (intOf v8).toNat)
  case atStart => exact ⟨0, by omega, rfl, HR1.out.below HB1.out, HR0.out.below HB1.out, HM1.out, HB0.out.trans (HB1.out.mono HB0.out.size)⟩
  case round =>
    obtain ⟨i, hi, rfl, r1, r0, hm, hb⟩ := hrel
    by_cases hi8 : i < 8
    · have hx := getD_at8 (l := l) (k := i) (by rw [HLen.out]; exact hi8)
      obtain ⟨x, hxx⟩ : ∃ x, l.getD i 0 = x := ⟨_, rfl⟩
      rw [hxx] at hx
      obtain ⟨g2, c2, e2, hB2, hc⟩ := hm.cellAt hx
      have e3 : g1 = g2 := by simp only [Value.slice.injEq, Option.some.injEq, Addr.mk.injEq] at e2; exact e2.1.1
      subst e3
      obtain ⟨y, hy⟩ : ∃ y, (l.take i ++ zero8.drop i)[i]? = some y := ⟨_, List.getElem?_eq_getElem (by have := HLen.out; simp [zero8]; omega)⟩
      obtain ⟨ho, hf⟩ := r1.at hy
      have HA := Lib.hid (And.intro r1 (And.intro r0 (And.intro hm hb)))
      have HX := Lib.hid hx
      clear r1 r0 hm hb hx hxx e2 hy
      go_wp2
      go_roundw
      case rel =>
        obtain ⟨r1, r0, hm, hb⟩ := HA.out
        refine ⟨i + 1, by omega, by go_num, ?_, r0.other (by simp) _, hm.setOther (by have := HWs.out; simp; omega) _, hb.setCell (by simp) _⟩
        have := r1.put i x
        rw [set_step8 HLen.out rfl hi8 HX.out] at this
        exact this
      case measure => simp [intOf]; omega
    · obtain rfl : i = 8 := by omega
      rw [List.take_of_length_le (by rw [HLen.out]; omega), show zero8.drop 8 = [] from rfl, List.append_nil, ← HL.out] at r1
      have HBf := Lib.hid hb
      obtain ⟨p0, _⟩ := r1.at (j := 0) (x := x0) rfl
      obtain ⟨q0, z0⟩ := r0.at (j := 0) (x := 0) rfl
      obtain ⟨p1, _⟩ := r1.at (j := 1) (x := x1) rfl
      obtain ⟨q1, z1⟩ := r0.at (j := 1) (x := 0) rfl
      obtain ⟨p2, _⟩ := r1.at (j := 2) (x := x2) rfl
      obtain ⟨q2, z2⟩ := r0.at (j := 2) (x := 0) rfl
      obtain ⟨p3, _⟩ := r1.at (j := 3) (x := x3) rfl
      obtain ⟨q3, z3⟩ := r0.at (j := 3) (x := 0) rfl
      obtain ⟨p4, _⟩ := r1.at (j := 4) (x := x4) rfl
      obtain ⟨q4, z4⟩ := r0.at (j := 4) (x := 0) rfl
      obtain ⟨p5, _⟩ := r1.at (j := 5) (x := x5) rfl
      obtain ⟨q5, z5⟩ := r0.at (j := 5) (x := 0) rfl
      obtain ⟨p6, _⟩ := r1.at (j := 6) (x := x6) rfl
      obtain ⟨q6, z6⟩ := r0.at (j := 6) (x := 0) rfl
      obtain ⟨p7, _⟩ := r1.at (j := 7) (x := x7) rfl
      obtain ⟨q7, z7⟩ := r0.at (j := 7) (x := 0) rfl
      clear r1 r0 hm hb
      go_wp2
      refine bodyPost_ret (v := .tuple #[agg8 [x0, x1, x2, x3, x4, x5, x6, x7], .int .i64 0]) ?_ rfl ?_
      · simp [results, Tryz.results6, go_sem, agg8, zero8, q0, q1, q2, q3, q4, q5, q6, q7]
      · refine ⟨rfl, ?_⟩
        have hb := HBf.out
        exact (((((((hb.setCell (by simp) _).setCell (by simp) _).setCell (by simp) _).setCell (by simp) _).setCell (by simp) _).setCell (by simp) _).setCell (by simp) _).setCell (by simp) _

end Go.Proofs.YtfodkkdggajjaaaGreatDoor

/-
  The program's read of layer 8, by its contract.
-/
namespace Go.Proofs.YtfodkkdggajjaaaGreatDoor
open Go.RowKit

theorem eight_of8 {l : List Nat} (h : l.length = 8) : ∃ x0 x1 x2 x3 x4 x5 x6 x7, l = [x0, x1, x2, x3, x4, x5, x6, x7] := by
  match l, h with
  | [x0, x1, x2, x3, x4, x5, x6, x7], _ => exact ⟨x0, x1, x2, x3, x4, x5, x6, x7, rfl⟩
theorem rows8 {t : TypeId} {w : World} {g : Nat} {x0 x1 x2 x3 x4 x5 x6 x7 : Nat} (h : RowU t w g [x0, x1, x2, x3, x4, x5, x6, x7]) : w.cell? ⟨g, 0, none⟩ = some (.int .u16 (x0 : Int)) ∧ w.cell? ⟨g, 1, none⟩ = some (.int .u16 (x1 : Int)) ∧ w.cell? ⟨g, 2, none⟩ = some (.int .u16 (x2 : Int)) ∧ w.cell? ⟨g, 3, none⟩ = some (.int .u16 (x3 : Int)) ∧ w.cell? ⟨g, 4, none⟩ = some (.int .u16 (x4 : Int)) ∧ w.cell? ⟨g, 5, none⟩ = some (.int .u16 (x5 : Int)) ∧ w.cell? ⟨g, 6, none⟩ = some (.int .u16 (x6 : Int)) ∧ w.cell? ⟨g, 7, none⟩ = some (.int .u16 (x7 : Int)) ∧ w.frozen? ⟨g, 0, none⟩ = false ∧ w.frozen? ⟨g, 1, none⟩ = false ∧ w.frozen? ⟨g, 2, none⟩ = false ∧ w.frozen? ⟨g, 3, none⟩ = false ∧ w.frozen? ⟨g, 4, none⟩ = false ∧ w.frozen? ⟨g, 5, none⟩ = false ∧ w.frozen? ⟨g, 6, none⟩ = false ∧ w.frozen? ⟨g, 7, none⟩ = false := ⟨(h.at (j := 0) rfl).1, (h.at (j := 1) rfl).1, (h.at (j := 2) rfl).1, (h.at (j := 3) rfl).1, (h.at (j := 4) rfl).1, (h.at (j := 5) rfl).1, (h.at (j := 6) rfl).1, (h.at (j := 7) rfl).1, (h.at (j := 0) rfl).2, (h.at (j := 1) rfl).2, (h.at (j := 2) rfl).2, (h.at (j := 3) rfl).2, (h.at (j := 4) rfl).2, (h.at (j := 5) rfl).2, (h.at (j := 6) rfl).2, (h.at (j := 7) rfl).2⟩
theorem put8_rows {t : TypeId} {W : World} {g : Nat} {l : List Nat} (h : RowU t W g l) (hl : l.length = 8) (x0 x1 x2 x3 x4 x5 x6 x7 : Nat) : RowU t ((((((((W.setCell ⟨g, 0, none⟩ (.int .u16 (x0 : Int))).setCell ⟨g, 1, none⟩ (.int .u16 (x1 : Int))).setCell ⟨g, 2, none⟩ (.int .u16 (x2 : Int))).setCell ⟨g, 3, none⟩ (.int .u16 (x3 : Int))).setCell ⟨g, 4, none⟩ (.int .u16 (x4 : Int))).setCell ⟨g, 5, none⟩ (.int .u16 (x5 : Int))).setCell ⟨g, 6, none⟩ (.int .u16 (x6 : Int))).setCell ⟨g, 7, none⟩ (.int .u16 (x7 : Int))) g [x0, x1, x2, x3, x4, x5, x6, x7] := by
  obtain ⟨y0, y1, y2, y3, y4, y5, y6, y7, rfl⟩ := eight_of8 hl
  exact (((((((h.put 0 x0).put 1 x1).put 2 x2).put 3 x3).put 4 x4).put 5 x5).put 6 x6).put 7 x7
theorem read_res {W : World} {g : Nat} {x0 x1 x2 x3 x4 x5 x6 x7 : Nat} (h : RowU 24 W g [x0, x1, x2, x3, x4, x5, x6, x7]) (tmps : Array Value) (n b : Value) (h4 : tmps.getD 4 undef = .pointer (some ⟨g, 0, none⟩)) (h5 : tmps.getD 5 undef = n) (h6 : tmps.getD 6 undef = b) :
    (results Tryz.f11 tmps).run Tryz.prog W = .ok (.tuple #[.agg #[.int .u16 (x0 : Int), .int .u16 (x1 : Int), .int .u16 (x2 : Int), .int .u16 (x3 : Int), .int .u16 (x4 : Int), .int .u16 (x5 : Int), .int .u16 (x6 : Int), .int .u16 (x7 : Int)], n, b]) W := by
  obtain ⟨c0, c1, c2, c3, c4, c5, c6, c7, f0, f1, f2, f3, f4, f5, f6, f7⟩ := rows8 h
  rw [Array.getD_eq_getD_getElem?] at h4 h5 h6
  simp [results, Tryz.results11, go_sem, h4, h5, h6, c0, c1, c2, c3, c4, c5, c6, c7]
theorem short7 {l : List Nat} (h : l.length + 2 ≤ 8) : (l = []) ∨ (∃ a0, l = [a0]) ∨ (∃ a0 a1, l = [a0, a1]) ∨ (∃ a0 a1 a2, l = [a0, a1, a2]) ∨ (∃ a0 a1 a2 a3, l = [a0, a1, a2, a3]) ∨ (∃ a0 a1 a2 a3 a4, l = [a0, a1, a2, a3, a4]) ∨ (∃ a0 a1 a2 a3 a4 a5, l = [a0, a1, a2, a3, a4, a5]) := by
  match l, h with
  | [], _ => exact .inl rfl
  | [a0], _ => exact .inr (.inl ⟨a0, rfl⟩)
  | [a0, a1], _ => exact .inr (.inr (.inl ⟨a0, a1, rfl⟩))
  | [a0, a1, a2], _ => exact .inr (.inr (.inr (.inl ⟨a0, a1, a2, rfl⟩)))
  | [a0, a1, a2, a3], _ => exact .inr (.inr (.inr (.inr (.inl ⟨a0, a1, a2, a3, rfl⟩))))
  | [a0, a1, a2, a3, a4], _ => exact .inr (.inr (.inr (.inr (.inr (.inl ⟨a0, a1, a2, a3, a4, rfl⟩)))))
  | [a0, a1, a2, a3, a4, a5], _ => exact .inr (.inr (.inr (.inr (.inr (.inr (⟨a0, a1, a2, a3, a4, a5, rfl⟩))))))
  | _ :: _ :: _ :: _ :: _ :: _ :: _ :: l, h => simp at h
/-- What read answers: the pieces from the array's begin on, and how many; or that there are none. -/
def RdPost (o : Option (List Nat)) (w : World) (e : Ending) (w' : World) : Prop := match o with
  | none => ∃ c : List Nat, c.length = 8 ∧ e = .returned (.tuple #[agg8 c, .int .i64 0, .bool false]) ∧ Below w.heap.size w w'
  | some l => e = .returned (.tuple #[agg8 (padN 8 l), .int .i64 (l.length : Nat), .bool true]) ∧ Below w.heap.size w w'
theorem below_put8 {w W : World} {g : Nat} (hg : w.heap.size ≤ g) (hb : Below w.heap.size w W) (v0 v1 v2 v3 v4 v5 v6 v7 : Value) : Below w.heap.size w ((((((((W.setCell ⟨g, 0, none⟩ v0).setCell ⟨g, 1, none⟩ v1).setCell ⟨g, 2, none⟩ v2).setCell ⟨g, 3, none⟩ v3).setCell ⟨g, 4, none⟩ v4).setCell ⟨g, 5, none⟩ v5).setCell ⟨g, 6, none⟩ v6).setCell ⟨g, 7, none⟩ v7) :=
  (((((((hb.setCell hg _).setCell hg _).setCell hg _).setCell hg _).setCell hg _).setCell hg _).setCell hg _).setCell hg _
def mea8 : Value → Value → Nat
  | .string t, .bool true => t.size + 1
  | _, _ => 0
theorem rd_none {w w' : World} {R : Option (List Nat)} {x0 x1 x2 x3 x4 x5 x6 x7 : Nat} (h : R = none) (hb : Below w.heap.size w w') : RdPost R w (.returned (.tuple #[.agg #[.int .u16 (x0 : Int), .int .u16 (x1 : Int), .int .u16 (x2 : Int), .int .u16 (x3 : Int), .int .u16 (x4 : Int), .int .u16 (x5 : Int), .int .u16 (x6 : Int), .int .u16 (x7 : Int)], .int .i64 0, .bool false])) w' := by
  rw [h]
  exact ⟨[x0, x1, x2, x3, x4, x5, x6, x7], rfl, rfl, hb⟩
theorem rd_some {w w' : World} {R : Option (List Nat)} {l : List Nat} {n : Int} {x0 x1 x2 x3 x4 x5 x6 x7 : Nat} (h : R = some l) (hp : padN 8 l = [x0, x1, x2, x3, x4, x5, x6, x7]) (hn : n = (l.length : Nat)) (hb : Below w.heap.size w w') : RdPost R w (.returned (.tuple #[.agg #[.int .u16 (x0 : Int), .int .u16 (x1 : Int), .int .u16 (x2 : Int), .int .u16 (x3 : Int), .int .u16 (x4 : Int), .int .u16 (x5 : Int), .int .u16 (x6 : Int), .int .u16 (x7 : Int)], .int .i64 n, .bool true])) w' := by
  rw [h]
  refine ⟨?_, hb⟩
  rw [hp, hn]
  rfl

set_option maxHeartbeats 8000000 in
set_option maxRecDepth 100000 in
theorem read_any (s : ByteArray) (last : Bool) (hs : s.size ≤ 10000) (w : World) (hv : V8 w) (R : Option (List Nat)) (hR : side8 s.data.toList last = R) : Calls Tryz.prog 11 #[.string s, .bool last] w (RdPost R w) := by
  have HRow : Hid (RowU 24 (w.alloc (.cells #[.int .u16 0, .int .u16 0, .int .u16 0, .int .u16 0, .int .u16 0, .int .u16 0, .int .u16 0, .int .u16 0] 24)) w.heap.size (padN 8 [])) := by
    show RowU _ _ _ _
    exact RowU.new 24 w zero8
  have HB2 : Hid (Below w.heap.size w (w.alloc (.cells #[.int .u16 0, .int .u16 0, .int .u16 0, .int .u16 0, .int .u16 0, .int .u16 0, .int .u16 0, .int .u16 0] 24))) := by
    show Below _ _ _
    exact (Below.refl _ _).alloc (Nat.le_refl _) _
  have HV := Lib.hid hv
  have hst : ∃ b0, s.toList.isEmpty = b0 ∧ ((b0 = false ∧ rd8 last [] s.data.toList = R) ∨ (b0 = true ∧ R = some [])) := by
    refine ⟨_, rfl, ?_⟩
    rw [ByteArray.toList_eq, ← hR]
    by_cases he : s.data.toList = []
    · right; rw [he]; exact ⟨rfl, rfl⟩
    · left; exact ⟨by rw [List.isEmpty_eq_false_iff]; exact he, (side8_some last he).symm⟩
  obtain ⟨b0, hE, hst⟩ := hst
  have HSt := Lib.hid hst
  clear hv hR hst
  go_enter Tryz.func11, Tryz.ntmps11
  go_wp2
  generalize (w.alloc (.cells #[.int .u16 0, .int .u16 0, .int .u16 0, .int .u16 0, .int .u16 0, .int .u16 0, .int .u16 0, .int .u16 0] 24)) = W at HRow HB2 ⊢
  obtain ⟨g, hg⟩ : ∃ g, w.heap.size = g := ⟨_, rfl⟩
  rw [hg] at HRow ⊢
  have HG := Lib.hid hg
  clear hg
  go_loopw [5, 7, 8] (fun v5 v7 v8 wr => ∃ (acc : List Nat) (t : ByteArray) (m : Bool), v5 = .int .i64 (acc.length : Nat) ∧ v7 = .string t ∧ v8 = .bool m ∧ acc.length ≤ 8 ∧ t.size ≤ 10000 ∧ Hid ((m = true ∧ rd8 last acc t.data.toList = R) ∨ (m = false ∧ R = some acc)) ∧ RowU 24 wr g (padN 8 acc) ∧ Below w.heap.size w wr) (fun _ v7 v8 _ => mea8 v7 v8)
  case atStart =>
    refine ⟨[], s, !b0, rfl, rfl, ?_, by decide, hs, ?_, HRow.out, HB2.out⟩
    · rfl
    · refine Lib.hid (HSt.out.elim (fun h => .inl ⟨by rw [h.1]; rfl, h.2⟩) (fun h => .inr ⟨by rw [h.1]; rfl, h.2⟩))
  case round =>
    obtain ⟨acc, t, m, rfl, rfl, rfl, h8, ht, hrd, hrow, hbw⟩ := hrel
    have hgl := hrow.lt
    have HGl : Hid (w.heap.size ≤ g) := Lib.hid (Nat.le_of_eq HG.out)
    obtain ⟨x0, x1, x2, x3, x4, x5, x6, x7, hpad⟩ := eight_of8 (padN_len h8)
    have HPad := Lib.hid hpad
    have HAt := Lib.hid (fun h => padN_at (N := 8) (ns := acc) (j := acc.length) h h8)
    rw [hpad] at hrow HAt
    have HRw := Lib.hid hrow
    have HBw := Lib.hid hbw
    have HVr := Lib.hid (HV.out.below hbw)
    clear hrow hbw hpad
    cases m with
    | false =>
      have HE : Hid (R = some acc) := hrd.out.elim (fun h => by cases h.1) (fun h => h.2)
      obtain ⟨c0, c1, c2, c3, c4, c5, c6, c7, f0, f1, f2, f3, f4, f5, f6, f7⟩ := rows8 HRw.out
      clear hrd
      go_wp2
      refine bodyPost_ret (read_res (put8_rows HRw.out rfl _ _ _ _ _ _ _ _) _ (.int .i64 (acc.length : Nat)) (.bool true) rfl rfl rfl) rfl ?_
      · exact rd_some HE.out HPad.out rfl (below_put8 HGl.out HBw.out _ _ _ _ _ _ _ _)
    | true =>
      have HE : Hid (rd8 last acc t.data.toList = R) := hrd.out.elim (fun h => h.2) (fun h => by cases h.1)
      clear hrd

      rcases cut_colon t.data.toList with ⟨hcut, hno⟩ | ⟨p, r, hcut, htp, hp⟩
      · have HCut : Hid (∀ w, V8 w → Calls Tryz.prog 10 #[.string t, .string ⟨#[58]⟩] w fun e w' => e = .returned (.tuple #[.string t, .string ⟨#[]⟩, .bool false]) ∧ Below w.heap.size w w') := fun w hv => cutAny8 t ⟨#[58]⟩ _ _ _ hcut w hv ht
        clear hcut
        cases last with
        | false =>
          cases hval : value8 t.data.toList with
          | none =>
            have HN : Hid (R = none) := HE.out.symm.trans ((rd8_end hno (.inl rfl)).trans (by rw [hval]))
            have HP := Lib.hid (fun w hv => piece_none hval w hv)
            clear hval
            go_wp2_with (first
              | (go_at_call 10; refine (HCut.out _ HVr.out).mono ?_; rintro e w3 ⟨rfl, hb⟩; have HB3 := Lib.hid (bnx8 HBw.out hb); have HV3 := Lib.hid (HVr.out.below hb); have HR3 := Lib.hid (HRw.out.below hb); clear hb)
              | (go_at_call 24; refine (HP.out _ HV3.out).mono ?_; rintro e w4 ⟨rfl, hb⟩; have HB4 := Lib.hid (bnx8 HB3.out hb); have HR4 := Lib.hid (HR3.out.below hb); have hgl4 := HR4.out.lt; obtain ⟨c0, c1, c2, c3, c4, c5, c6, c7, f0, f1, f2, f3, f4, f5, f6, f7⟩ := rows8 HR4.out; clear hb))
            refine bodyPost_ret (read_res (put8_rows HR4.out rfl _ _ _ _ _ _ _ _) _ (.int .i64 0) (.bool false) rfl rfl rfl) rfl ?_
            exact rd_none HN.out (below_put8 HGl.out HB4.out _ _ _ _ _ _ _ _)
          | some n =>
            have HP := Lib.hid (piece_some hval)
            by_cases hfull : acc.length = 8
            · have HN : Hid (R = none) := HE.out.symm.trans ((rd8_end hno (.inl rfl)).trans (by rw [hval]; exact if_neg (by omega)))
              have hfi : ((acc.length : Int) == 8) = true := beq_iff_eq.2 (by omega)
              clear hval
              go_wp2_with (first
                | (go_at_call 10; refine (HCut.out _ HVr.out).mono ?_; rintro e w3 ⟨rfl, hb⟩; have HB3 := Lib.hid (bnx8 HBw.out hb); have HV3 := Lib.hid (HVr.out.below hb); have HR3 := Lib.hid (HRw.out.below hb); clear hb)
                | (go_at_call 24; refine (HP.out _).mono ?_; rintro e w4 ⟨rfl, hb⟩; have HB4 := Lib.hid (bnx8 HB3.out hb); have HR4 := Lib.hid (HR3.out.below hb); have hgl4 := HR4.out.lt; obtain ⟨c0, c1, c2, c3, c4, c5, c6, c7, f0, f1, f2, f3, f4, f5, f6, f7⟩ := rows8 HR4.out; clear hb))
              refine bodyPost_ret (read_res (put8_rows HR4.out rfl _ _ _ _ _ _ _ _) _ (.int .i64 0) (.bool false) rfl rfl rfl) rfl ?_
              exact rd_none HN.out (below_put8 HGl.out HB4.out _ _ _ _ _ _ _ _)
            · have HS : Hid (R = some (acc ++ [n])) := HE.out.symm.trans ((rd8_end hno (.inl rfl)).trans (by rw [hval]; exact if_pos (by omega)))
              have hfi : ((acc.length : Int) == 8) = false := beq_eq_false_iff_ne.2 (by omega)
              have hlt8 : acc.length < 8 := by omega
              have hn6 := value8_lt hval
              clear hval
              go_wp2_with (first
                | (go_at_call 10; refine (HCut.out _ HVr.out).mono ?_; rintro e w3 ⟨rfl, hb⟩; have HB3 := Lib.hid (bnx8 HBw.out hb); have HV3 := Lib.hid (HVr.out.below hb); have HR3 := Lib.hid (HRw.out.below hb); clear hb)
                | (go_at_call 24; refine (HP.out _).mono ?_; rintro e w4 ⟨rfl, hb⟩; have HB4 := Lib.hid (bnx8 HB3.out hb); have HR4 := Lib.hid (HR3.out.below hb); have hgl4 := HR4.out.lt; obtain ⟨hcell, hfz⟩ := HR4.out.at (HAt.out (by omega)); clear hb))
              go_roundw
              case rel => exact ⟨acc ++ [n], ⟨#[]⟩, false, congrArg (Value.int .i64) (by rw [List.length_append, List.length_singleton]; omega), rfl, rfl, by simp; omega, by decide, Lib.hid (.inr ⟨rfl, HS.out⟩), by have := HR4.out.put acc.length n; rw [← HPad.out, padN_set hlt8] at this; exact this, HB4.out.setCell HGl.out _⟩
              case measure => exact Nat.succ_pos _
        | true =>
          by_cases hd : 46 ∈ t.data.toList
          · have HCon : Hid (∀ w, Calls Tryz.prog 22 #[.string t, .string ⟨#[46]⟩] w fun e w' => e = .returned (.bool true) ∧ w = w') := fun w => dotAny8 t true (decide_eq_true hd) w
            cases hq : quad8 t.data.toList with
            | none =>
              have HN : Hid (R = none) := HE.out.symm.trans ((rd8_end_quad hno hd).trans (by rw [hq]))
              have HQ := Lib.hid (fun w hv => quad_any t ht w hv none hq)
              clear hd hno hq
              go_wp2_with (first
                | (go_at_call 10; refine (HCut.out _ HVr.out).mono ?_; rintro e w3 ⟨rfl, hb⟩; have HB3 := Lib.hid (bnx8 HBw.out hb); have HV3 := Lib.hid (HVr.out.below hb); have HR3 := Lib.hid (HRw.out.below hb); clear hb)
                | (go_at_call 22; refine (HCon.out _).mono ?_; rintro e w9 ⟨rfl, rfl⟩)
                | (go_at_call 23; refine (HQ.out _ HV3.out).mono ?_; unfold QOut; rintro e w4 ⟨rfl, hb⟩; have HB4 := Lib.hid (bnx8 HB3.out hb); have HR4 := Lib.hid (HR3.out.below hb); have hgl4 := HR4.out.lt; obtain ⟨c0, c1, c2, c3, c4, c5, c6, c7, f0, f1, f2, f3, f4, f5, f6, f7⟩ := rows8 HR4.out; clear hb))
              refine bodyPost_ret (read_res (put8_rows HR4.out rfl _ _ _ _ _ _ _ _) _ (.int .i64 0) (.bool false) rfl rfl rfl) rfl ?_
              exact rd_none HN.out (below_put8 HGl.out HB4.out _ _ _ _ _ _ _ _)
            | some q =>
              obtain ⟨x, y⟩ := q
              have HQ := Lib.hid (fun w hv => quad_any t ht w hv _ hq)
              have hxy := quad8_lt hq
              by_cases hroom : acc.length + 2 ≤ 8
              · have HN : Hid (R = some (acc ++ [x, y])) := HE.out.symm.trans ((rd8_end_quad hno hd).trans (by rw [hq]; exact if_pos hroom))
                clear hd hno hq
                rcases short7 hroom with rfl | ⟨a0, rfl⟩ | ⟨a0, a1, rfl⟩ | ⟨a0, a1, a2, rfl⟩ | ⟨a0, a1, a2, a3, rfl⟩ | ⟨a0, a1, a2, a3, a4, rfl⟩ | ⟨a0, a1, a2, a3, a4, a5, rfl⟩
                · have HRw : Hid (RowU 24 wr g [0, 0, 0, 0, 0, 0, 0, 0]) := by
                    show RowU _ _ _ _
                    have h := HRw.out
                    rw [← HPad.out] at h
                    exact h
                  rw [show ((([] : List Nat).length : Nat) : Int) = 0 from rfl]
                  clear hroom HAt
                  go_wp2_with (first
                    | (go_at_call 10; refine (HCut.out _ HVr.out).mono ?_; rintro e w3 ⟨rfl, hb⟩; have HB3 := Lib.hid (bnx8 HBw.out hb); have HV3 := Lib.hid (HVr.out.below hb); have HR3 := Lib.hid (HRw.out.below hb); clear hb)
                    | (go_at_call 22; refine (HCon.out _).mono ?_; rintro e w9 ⟨rfl, rfl⟩)
                    | (go_at_call 23; refine (HQ.out _ HV3.out).mono ?_; unfold QOut; rintro e w4 ⟨rfl, hb⟩; have HB4 := Lib.hid (bnx8 HB3.out hb); have HR4 := Lib.hid (HR3.out.below hb); have hgl4 := HR4.out.lt; obtain ⟨c0, c1, c2, c3, c4, c5, c6, c7, f0, f1, f2, f3, f4, f5, f6, f7⟩ := rows8 HR4.out; clear hb))
                  refine bodyPost_ret (read_res (put8_rows ((HR4.out.put 0 x).put 1 y) rfl x y 0 0 0 0 0 0) _ (.int .i64 2) (.bool true) rfl rfl rfl) rfl ?_
                  exact rd_some HN.out rfl rfl (below_put8 HGl.out ((HB4.out.setCell HGl.out _).setCell HGl.out _) _ _ _ _ _ _ _ _)
                · have HRw : Hid (RowU 24 wr g [a0, 0, 0, 0, 0, 0, 0, 0]) := by
                    show RowU _ _ _ _
                    have h := HRw.out
                    rw [← HPad.out] at h
                    exact h
                  rw [show ((([a0] : List Nat).length : Nat) : Int) = 1 from rfl]
                  clear hroom HAt
                  go_wp2_with (first
                    | (go_at_call 10; refine (HCut.out _ HVr.out).mono ?_; rintro e w3 ⟨rfl, hb⟩; have HB3 := Lib.hid (bnx8 HBw.out hb); have HV3 := Lib.hid (HVr.out.below hb); have HR3 := Lib.hid (HRw.out.below hb); clear hb)
                    | (go_at_call 22; refine (HCon.out _).mono ?_; rintro e w9 ⟨rfl, rfl⟩)
                    | (go_at_call 23; refine (HQ.out _ HV3.out).mono ?_; unfold QOut; rintro e w4 ⟨rfl, hb⟩; have HB4 := Lib.hid (bnx8 HB3.out hb); have HR4 := Lib.hid (HR3.out.below hb); have hgl4 := HR4.out.lt; obtain ⟨c0, c1, c2, c3, c4, c5, c6, c7, f0, f1, f2, f3, f4, f5, f6, f7⟩ := rows8 HR4.out; clear hb))
                  refine bodyPost_ret (read_res (put8_rows ((HR4.out.put 1 x).put 2 y) rfl a0 x y 0 0 0 0 0) _ (.int .i64 3) (.bool true) rfl rfl rfl) rfl ?_
                  exact rd_some HN.out rfl rfl (below_put8 HGl.out ((HB4.out.setCell HGl.out _).setCell HGl.out _) _ _ _ _ _ _ _ _)
                · have HRw : Hid (RowU 24 wr g [a0, a1, 0, 0, 0, 0, 0, 0]) := by
                    show RowU _ _ _ _
                    have h := HRw.out
                    rw [← HPad.out] at h
                    exact h
                  rw [show ((([a0, a1] : List Nat).length : Nat) : Int) = 2 from rfl]
                  clear hroom HAt
                  go_wp2_with (first
                    | (go_at_call 10; refine (HCut.out _ HVr.out).mono ?_; rintro e w3 ⟨rfl, hb⟩; have HB3 := Lib.hid (bnx8 HBw.out hb); have HV3 := Lib.hid (HVr.out.below hb); have HR3 := Lib.hid (HRw.out.below hb); clear hb)
                    | (go_at_call 22; refine (HCon.out _).mono ?_; rintro e w9 ⟨rfl, rfl⟩)
                    | (go_at_call 23; refine (HQ.out _ HV3.out).mono ?_; unfold QOut; rintro e w4 ⟨rfl, hb⟩; have HB4 := Lib.hid (bnx8 HB3.out hb); have HR4 := Lib.hid (HR3.out.below hb); have hgl4 := HR4.out.lt; obtain ⟨c0, c1, c2, c3, c4, c5, c6, c7, f0, f1, f2, f3, f4, f5, f6, f7⟩ := rows8 HR4.out; clear hb))
                  refine bodyPost_ret (read_res (put8_rows ((HR4.out.put 2 x).put 3 y) rfl a0 a1 x y 0 0 0 0) _ (.int .i64 4) (.bool true) rfl rfl rfl) rfl ?_
                  exact rd_some HN.out rfl rfl (below_put8 HGl.out ((HB4.out.setCell HGl.out _).setCell HGl.out _) _ _ _ _ _ _ _ _)
                · have HRw : Hid (RowU 24 wr g [a0, a1, a2, 0, 0, 0, 0, 0]) := by
                    show RowU _ _ _ _
                    have h := HRw.out
                    rw [← HPad.out] at h
                    exact h
                  rw [show ((([a0, a1, a2] : List Nat).length : Nat) : Int) = 3 from rfl]
                  clear hroom HAt
                  go_wp2_with (first
                    | (go_at_call 10; refine (HCut.out _ HVr.out).mono ?_; rintro e w3 ⟨rfl, hb⟩; have HB3 := Lib.hid (bnx8 HBw.out hb); have HV3 := Lib.hid (HVr.out.below hb); have HR3 := Lib.hid (HRw.out.below hb); clear hb)
                    | (go_at_call 22; refine (HCon.out _).mono ?_; rintro e w9 ⟨rfl, rfl⟩)
                    | (go_at_call 23; refine (HQ.out _ HV3.out).mono ?_; unfold QOut; rintro e w4 ⟨rfl, hb⟩; have HB4 := Lib.hid (bnx8 HB3.out hb); have HR4 := Lib.hid (HR3.out.below hb); have hgl4 := HR4.out.lt; obtain ⟨c0, c1, c2, c3, c4, c5, c6, c7, f0, f1, f2, f3, f4, f5, f6, f7⟩ := rows8 HR4.out; clear hb))
                  refine bodyPost_ret (read_res (put8_rows ((HR4.out.put 3 x).put 4 y) rfl a0 a1 a2 x y 0 0 0) _ (.int .i64 5) (.bool true) rfl rfl rfl) rfl ?_
                  exact rd_some HN.out rfl rfl (below_put8 HGl.out ((HB4.out.setCell HGl.out _).setCell HGl.out _) _ _ _ _ _ _ _ _)
                · have HRw : Hid (RowU 24 wr g [a0, a1, a2, a3, 0, 0, 0, 0]) := by
                    show RowU _ _ _ _
                    have h := HRw.out
                    rw [← HPad.out] at h
                    exact h
                  rw [show ((([a0, a1, a2, a3] : List Nat).length : Nat) : Int) = 4 from rfl]
                  clear hroom HAt
                  go_wp2_with (first
                    | (go_at_call 10; refine (HCut.out _ HVr.out).mono ?_; rintro e w3 ⟨rfl, hb⟩; have HB3 := Lib.hid (bnx8 HBw.out hb); have HV3 := Lib.hid (HVr.out.below hb); have HR3 := Lib.hid (HRw.out.below hb); clear hb)
                    | (go_at_call 22; refine (HCon.out _).mono ?_; rintro e w9 ⟨rfl, rfl⟩)
                    | (go_at_call 23; refine (HQ.out _ HV3.out).mono ?_; unfold QOut; rintro e w4 ⟨rfl, hb⟩; have HB4 := Lib.hid (bnx8 HB3.out hb); have HR4 := Lib.hid (HR3.out.below hb); have hgl4 := HR4.out.lt; obtain ⟨c0, c1, c2, c3, c4, c5, c6, c7, f0, f1, f2, f3, f4, f5, f6, f7⟩ := rows8 HR4.out; clear hb))
                  refine bodyPost_ret (read_res (put8_rows ((HR4.out.put 4 x).put 5 y) rfl a0 a1 a2 a3 x y 0 0) _ (.int .i64 6) (.bool true) rfl rfl rfl) rfl ?_
                  exact rd_some HN.out rfl rfl (below_put8 HGl.out ((HB4.out.setCell HGl.out _).setCell HGl.out _) _ _ _ _ _ _ _ _)
                · have HRw : Hid (RowU 24 wr g [a0, a1, a2, a3, a4, 0, 0, 0]) := by
                    show RowU _ _ _ _
                    have h := HRw.out
                    rw [← HPad.out] at h
                    exact h
                  rw [show ((([a0, a1, a2, a3, a4] : List Nat).length : Nat) : Int) = 5 from rfl]
                  clear hroom HAt
                  go_wp2_with (first
                    | (go_at_call 10; refine (HCut.out _ HVr.out).mono ?_; rintro e w3 ⟨rfl, hb⟩; have HB3 := Lib.hid (bnx8 HBw.out hb); have HV3 := Lib.hid (HVr.out.below hb); have HR3 := Lib.hid (HRw.out.below hb); clear hb)
                    | (go_at_call 22; refine (HCon.out _).mono ?_; rintro e w9 ⟨rfl, rfl⟩)
                    | (go_at_call 23; refine (HQ.out _ HV3.out).mono ?_; unfold QOut; rintro e w4 ⟨rfl, hb⟩; have HB4 := Lib.hid (bnx8 HB3.out hb); have HR4 := Lib.hid (HR3.out.below hb); have hgl4 := HR4.out.lt; obtain ⟨c0, c1, c2, c3, c4, c5, c6, c7, f0, f1, f2, f3, f4, f5, f6, f7⟩ := rows8 HR4.out; clear hb))
                  refine bodyPost_ret (read_res (put8_rows ((HR4.out.put 5 x).put 6 y) rfl a0 a1 a2 a3 a4 x y 0) _ (.int .i64 7) (.bool true) rfl rfl rfl) rfl ?_
                  exact rd_some HN.out rfl rfl (below_put8 HGl.out ((HB4.out.setCell HGl.out _).setCell HGl.out _) _ _ _ _ _ _ _ _)
                · have HRw : Hid (RowU 24 wr g [a0, a1, a2, a3, a4, a5, 0, 0]) := by
                    show RowU _ _ _ _
                    have h := HRw.out
                    rw [← HPad.out] at h
                    exact h
                  rw [show ((([a0, a1, a2, a3, a4, a5] : List Nat).length : Nat) : Int) = 6 from rfl]
                  clear hroom HAt
                  go_wp2_with (first
                    | (go_at_call 10; refine (HCut.out _ HVr.out).mono ?_; rintro e w3 ⟨rfl, hb⟩; have HB3 := Lib.hid (bnx8 HBw.out hb); have HV3 := Lib.hid (HVr.out.below hb); have HR3 := Lib.hid (HRw.out.below hb); clear hb)
                    | (go_at_call 22; refine (HCon.out _).mono ?_; rintro e w9 ⟨rfl, rfl⟩)
                    | (go_at_call 23; refine (HQ.out _ HV3.out).mono ?_; unfold QOut; rintro e w4 ⟨rfl, hb⟩; have HB4 := Lib.hid (bnx8 HB3.out hb); have HR4 := Lib.hid (HR3.out.below hb); have hgl4 := HR4.out.lt; obtain ⟨c0, c1, c2, c3, c4, c5, c6, c7, f0, f1, f2, f3, f4, f5, f6, f7⟩ := rows8 HR4.out; clear hb))
                  refine bodyPost_ret (read_res (put8_rows ((HR4.out.put 6 x).put 7 y) rfl a0 a1 a2 a3 a4 a5 x y) _ (.int .i64 8) (.bool true) rfl rfl rfl) rfl ?_
                  exact rd_some HN.out rfl rfl (below_put8 HGl.out ((HB4.out.setCell HGl.out _).setCell HGl.out _) _ _ _ _ _ _ _ _)
              · have HN : Hid (R = none) := HE.out.symm.trans ((rd8_end_quad hno hd).trans (by rw [hq]; exact if_neg hroom))
                have hri : (8 : Int) < (acc.length : Int) + 2 := by omega
                clear hd hno hq
                go_wp2_with (first
                  | (go_at_call 10; refine (HCut.out _ HVr.out).mono ?_; rintro e w3 ⟨rfl, hb⟩; have HB3 := Lib.hid (bnx8 HBw.out hb); have HV3 := Lib.hid (HVr.out.below hb); have HR3 := Lib.hid (HRw.out.below hb); clear hb)
                  | (go_at_call 22; refine (HCon.out _).mono ?_; rintro e w9 ⟨rfl, rfl⟩)
                  | (go_at_call 23; refine (HQ.out _ HV3.out).mono ?_; unfold QOut; rintro e w4 ⟨rfl, hb⟩; have HB4 := Lib.hid (bnx8 HB3.out hb); have HR4 := Lib.hid (HR3.out.below hb); have hgl4 := HR4.out.lt; obtain ⟨c0, c1, c2, c3, c4, c5, c6, c7, f0, f1, f2, f3, f4, f5, f6, f7⟩ := rows8 HR4.out; clear hb))
                refine bodyPost_ret (read_res (put8_rows HR4.out rfl _ _ _ _ _ _ _ _) _ (.int .i64 0) (.bool false) rfl rfl rfl) rfl ?_
                exact rd_none HN.out (below_put8 HGl.out HB4.out _ _ _ _ _ _ _ _)
          · have HCon : Hid (∀ w, Calls Tryz.prog 22 #[.string t, .string ⟨#[46]⟩] w fun e w' => e = .returned (.bool false) ∧ w = w') := fun w => dotAny8 t false (decide_eq_false hd) w
            cases hval : value8 t.data.toList with
            | none =>
              have HN : Hid (R = none) := HE.out.symm.trans ((rd8_end hno (.inr hd)).trans (by rw [hval]))
              have HP := Lib.hid (fun w hv => piece_none hval w hv)
              clear hval
              go_wp2_with (first
                | (go_at_call 10; refine (HCut.out _ HVr.out).mono ?_; rintro e w3 ⟨rfl, hb⟩; have HB3 := Lib.hid (bnx8 HBw.out hb); have HV3 := Lib.hid (HVr.out.below hb); have HR3 := Lib.hid (HRw.out.below hb); clear hb)
                | (go_at_call 22; refine (HCon.out _).mono ?_; rintro e w9 ⟨rfl, rfl⟩)
                | (go_at_call 24; refine (HP.out _ HV3.out).mono ?_; rintro e w4 ⟨rfl, hb⟩; have HB4 := Lib.hid (bnx8 HB3.out hb); have HR4 := Lib.hid (HR3.out.below hb); have hgl4 := HR4.out.lt; obtain ⟨c0, c1, c2, c3, c4, c5, c6, c7, f0, f1, f2, f3, f4, f5, f6, f7⟩ := rows8 HR4.out; clear hb))
              refine bodyPost_ret (read_res (put8_rows HR4.out rfl _ _ _ _ _ _ _ _) _ (.int .i64 0) (.bool false) rfl rfl rfl) rfl ?_
              exact rd_none HN.out (below_put8 HGl.out HB4.out _ _ _ _ _ _ _ _)
            | some n =>
              have HP := Lib.hid (piece_some hval)
              by_cases hfull : acc.length = 8
              · have HN : Hid (R = none) := HE.out.symm.trans ((rd8_end hno (.inr hd)).trans (by rw [hval]; exact if_neg (by omega)))
                have hfi : ((acc.length : Int) == 8) = true := beq_iff_eq.2 (by omega)
                clear hval
                go_wp2_with (first
                  | (go_at_call 10; refine (HCut.out _ HVr.out).mono ?_; rintro e w3 ⟨rfl, hb⟩; have HB3 := Lib.hid (bnx8 HBw.out hb); have HV3 := Lib.hid (HVr.out.below hb); have HR3 := Lib.hid (HRw.out.below hb); clear hb)
                  | (go_at_call 22; refine (HCon.out _).mono ?_; rintro e w9 ⟨rfl, rfl⟩)
                  | (go_at_call 24; refine (HP.out _).mono ?_; rintro e w4 ⟨rfl, hb⟩; have HB4 := Lib.hid (bnx8 HB3.out hb); have HR4 := Lib.hid (HR3.out.below hb); have hgl4 := HR4.out.lt; obtain ⟨c0, c1, c2, c3, c4, c5, c6, c7, f0, f1, f2, f3, f4, f5, f6, f7⟩ := rows8 HR4.out; clear hb))
                refine bodyPost_ret (read_res (put8_rows HR4.out rfl _ _ _ _ _ _ _ _) _ (.int .i64 0) (.bool false) rfl rfl rfl) rfl ?_
                exact rd_none HN.out (below_put8 HGl.out HB4.out _ _ _ _ _ _ _ _)
              · have HS : Hid (R = some (acc ++ [n])) := HE.out.symm.trans ((rd8_end hno (.inr hd)).trans (by rw [hval]; exact if_pos (by omega)))
                have hfi : ((acc.length : Int) == 8) = false := beq_eq_false_iff_ne.2 (by omega)
                have hlt8 : acc.length < 8 := by omega
                have hn6 := value8_lt hval
                clear hval
                go_wp2_with (first
                  | (go_at_call 10; refine (HCut.out _ HVr.out).mono ?_; rintro e w3 ⟨rfl, hb⟩; have HB3 := Lib.hid (bnx8 HBw.out hb); have HV3 := Lib.hid (HVr.out.below hb); have HR3 := Lib.hid (HRw.out.below hb); clear hb)
                  | (go_at_call 22; refine (HCon.out _).mono ?_; rintro e w9 ⟨rfl, rfl⟩)
                  | (go_at_call 24; refine (HP.out _).mono ?_; rintro e w4 ⟨rfl, hb⟩; have HB4 := Lib.hid (bnx8 HB3.out hb); have HR4 := Lib.hid (HR3.out.below hb); have hgl4 := HR4.out.lt; obtain ⟨hcell, hfz⟩ := HR4.out.at (HAt.out (by omega)); clear hb))
                go_roundw
                case rel => exact ⟨acc ++ [n], ⟨#[]⟩, false, congrArg (Value.int .i64) (by rw [List.length_append, List.length_singleton]; omega), rfl, rfl, by simp; omega, by decide, Lib.hid (.inr ⟨rfl, HS.out⟩), by have := HR4.out.put acc.length n; rw [← HPad.out, padN_set hlt8] at this; exact this, HB4.out.setCell HGl.out _⟩
                case measure => exact Nat.succ_pos _
      · have HCut : Hid (∀ w, V8 w → Calls Tryz.prog 10 #[.string t, .string ⟨#[58]⟩] w fun e w' => e = .returned (.tuple #[.string (btx p), .string (btx r), .bool true]) ∧ Below w.heap.size w w') := fun w hv => cutAny8 t ⟨#[58]⟩ _ _ _ hcut w hv ht
        have hrs : (btx r).size < t.size := by
          have h1 : t.data.toList.length = t.size := by simp
          rw [htp] at h1
          rw [btx_size]
          simp at h1
          omega
        clear hcut
        cases last with
        | false =>
          cases hval : value8 (btx p).data.toList with
          | none =>
            have HN : Hid (R = none) := HE.out.symm.trans (rd8_bad hp htp hval)
            have HP := Lib.hid (fun w hv => piece_none hval w hv)
            clear hval
            go_wp2_with (first
              | (go_at_call 10; refine (HCut.out _ HVr.out).mono ?_; rintro e w3 ⟨rfl, hb⟩; have HB3 := Lib.hid (bnx8 HBw.out hb); have HV3 := Lib.hid (HVr.out.below hb); have HR3 := Lib.hid (HRw.out.below hb); clear hb)
              | (go_at_call 24; refine (HP.out _ HV3.out).mono ?_; rintro e w4 ⟨rfl, hb⟩; have HB4 := Lib.hid (bnx8 HB3.out hb); have HR4 := Lib.hid (HR3.out.below hb); have hgl4 := HR4.out.lt; obtain ⟨c0, c1, c2, c3, c4, c5, c6, c7, f0, f1, f2, f3, f4, f5, f6, f7⟩ := rows8 HR4.out; clear hb))
            refine bodyPost_ret (read_res (put8_rows HR4.out rfl _ _ _ _ _ _ _ _) _ (.int .i64 0) (.bool false) rfl rfl rfl) rfl ?_
            exact rd_none HN.out (below_put8 HGl.out HB4.out _ _ _ _ _ _ _ _)
          | some n =>
            have HP := Lib.hid (piece_some hval)
            by_cases hfull : acc.length = 8
            · have HN : Hid (R = none) := HE.out.symm.trans (rd8_full hp htp hfull)
              have hfi : ((acc.length : Int) == 8) = true := beq_iff_eq.2 (by omega)
              clear hval
              go_wp2_with (first
                | (go_at_call 10; refine (HCut.out _ HVr.out).mono ?_; rintro e w3 ⟨rfl, hb⟩; have HB3 := Lib.hid (bnx8 HBw.out hb); have HV3 := Lib.hid (HVr.out.below hb); have HR3 := Lib.hid (HRw.out.below hb); clear hb)
                | (go_at_call 24; refine (HP.out _).mono ?_; rintro e w4 ⟨rfl, hb⟩; have HB4 := Lib.hid (bnx8 HB3.out hb); have HR4 := Lib.hid (HR3.out.below hb); have hgl4 := HR4.out.lt; obtain ⟨c0, c1, c2, c3, c4, c5, c6, c7, f0, f1, f2, f3, f4, f5, f6, f7⟩ := rows8 HR4.out; clear hb))
              refine bodyPost_ret (read_res (put8_rows HR4.out rfl _ _ _ _ _ _ _ _) _ (.int .i64 0) (.bool false) rfl rfl rfl) rfl ?_
              exact rd_none HN.out (below_put8 HGl.out HB4.out _ _ _ _ _ _ _ _)
            · have HS : Hid (rd8 _ (acc ++ [n]) r = R) := (rd8_step hp htp hval).symm.trans HE.out
              have hfi : ((acc.length : Int) == 8) = false := beq_eq_false_iff_ne.2 (by omega)
              have hlt8 : acc.length < 8 := by omega
              have hn6 := value8_lt hval
              clear hval
              go_wp2_with (first
                | (go_at_call 10; refine (HCut.out _ HVr.out).mono ?_; rintro e w3 ⟨rfl, hb⟩; have HB3 := Lib.hid (bnx8 HBw.out hb); have HV3 := Lib.hid (HVr.out.below hb); have HR3 := Lib.hid (HRw.out.below hb); clear hb)
                | (go_at_call 24; refine (HP.out _).mono ?_; rintro e w4 ⟨rfl, hb⟩; have HB4 := Lib.hid (bnx8 HB3.out hb); have HR4 := Lib.hid (HR3.out.below hb); have hgl4 := HR4.out.lt; obtain ⟨hcell, hfz⟩ := HR4.out.at (HAt.out (by omega)); clear hb))
              go_roundw
              case rel => exact ⟨acc ++ [n], btx r, true, congrArg (Value.int .i64) (by rw [List.length_append, List.length_singleton]; omega), rfl, rfl, by simp; omega, by omega, Lib.hid (.inl ⟨rfl, HS.out⟩), by have := HR4.out.put acc.length n; rw [← HPad.out, padN_set hlt8] at this; exact this, HB4.out.setCell HGl.out _⟩
              case measure => exact Nat.succ_lt_succ hrs
        | true =>
          cases hval : value8 (btx p).data.toList with
          | none =>
            have HN : Hid (R = none) := HE.out.symm.trans (rd8_bad hp htp hval)
            have HP := Lib.hid (fun w hv => piece_none hval w hv)
            clear hval
            go_wp2_with (first
              | (go_at_call 10; refine (HCut.out _ HVr.out).mono ?_; rintro e w3 ⟨rfl, hb⟩; have HB3 := Lib.hid (bnx8 HBw.out hb); have HV3 := Lib.hid (HVr.out.below hb); have HR3 := Lib.hid (HRw.out.below hb); clear hb)
              | (go_at_call 24; refine (HP.out _ HV3.out).mono ?_; rintro e w4 ⟨rfl, hb⟩; have HB4 := Lib.hid (bnx8 HB3.out hb); have HR4 := Lib.hid (HR3.out.below hb); have hgl4 := HR4.out.lt; obtain ⟨c0, c1, c2, c3, c4, c5, c6, c7, f0, f1, f2, f3, f4, f5, f6, f7⟩ := rows8 HR4.out; clear hb))
            refine bodyPost_ret (read_res (put8_rows HR4.out rfl _ _ _ _ _ _ _ _) _ (.int .i64 0) (.bool false) rfl rfl rfl) rfl ?_
            exact rd_none HN.out (below_put8 HGl.out HB4.out _ _ _ _ _ _ _ _)
          | some n =>
            have HP := Lib.hid (piece_some hval)
            by_cases hfull : acc.length = 8
            · have HN : Hid (R = none) := HE.out.symm.trans (rd8_full hp htp hfull)
              have hfi : ((acc.length : Int) == 8) = true := beq_iff_eq.2 (by omega)
              clear hval
              go_wp2_with (first
                | (go_at_call 10; refine (HCut.out _ HVr.out).mono ?_; rintro e w3 ⟨rfl, hb⟩; have HB3 := Lib.hid (bnx8 HBw.out hb); have HV3 := Lib.hid (HVr.out.below hb); have HR3 := Lib.hid (HRw.out.below hb); clear hb)
                | (go_at_call 24; refine (HP.out _).mono ?_; rintro e w4 ⟨rfl, hb⟩; have HB4 := Lib.hid (bnx8 HB3.out hb); have HR4 := Lib.hid (HR3.out.below hb); have hgl4 := HR4.out.lt; obtain ⟨c0, c1, c2, c3, c4, c5, c6, c7, f0, f1, f2, f3, f4, f5, f6, f7⟩ := rows8 HR4.out; clear hb))
              refine bodyPost_ret (read_res (put8_rows HR4.out rfl _ _ _ _ _ _ _ _) _ (.int .i64 0) (.bool false) rfl rfl rfl) rfl ?_
              exact rd_none HN.out (below_put8 HGl.out HB4.out _ _ _ _ _ _ _ _)
            · have HS : Hid (rd8 _ (acc ++ [n]) r = R) := (rd8_step hp htp hval).symm.trans HE.out
              have hfi : ((acc.length : Int) == 8) = false := beq_eq_false_iff_ne.2 (by omega)
              have hlt8 : acc.length < 8 := by omega
              have hn6 := value8_lt hval
              clear hval
              go_wp2_with (first
                | (go_at_call 10; refine (HCut.out _ HVr.out).mono ?_; rintro e w3 ⟨rfl, hb⟩; have HB3 := Lib.hid (bnx8 HBw.out hb); have HV3 := Lib.hid (HVr.out.below hb); have HR3 := Lib.hid (HRw.out.below hb); clear hb)
                | (go_at_call 24; refine (HP.out _).mono ?_; rintro e w4 ⟨rfl, hb⟩; have HB4 := Lib.hid (bnx8 HB3.out hb); have HR4 := Lib.hid (HR3.out.below hb); have hgl4 := HR4.out.lt; obtain ⟨hcell, hfz⟩ := HR4.out.at (HAt.out (by omega)); clear hb))
              go_roundw
              case rel => exact ⟨acc ++ [n], btx r, true, congrArg (Value.int .i64) (by rw [List.length_append, List.length_singleton]; omega), rfl, rfl, by simp; omega, by omega, Lib.hid (.inl ⟨rfl, HS.out⟩), by have := HR4.out.put acc.length n; rw [← HPad.out, padN_set hlt8] at this; exact this, HB4.out.setCell HGl.out _⟩
              case measure => exact Nat.succ_lt_succ hrs
end Go.Proofs.YtfodkkdggajjaaaGreatDoor

/-
  The document's Parse of layer 8 with a pair of colons; all of it.
-/
namespace Go.Proofs.YtfodkkdggajjaaaGreatDoor
open Go.RowKit

theorem colons8_le {l : List UInt8} {k : Nat} (h : colons8 l = some k) : k + 2 ≤ l.length := by
  induction l generalizing k with
  | nil => cases h
  | cons a t ih =>
    cases t with
    | nil => cases h
    | cons b t =>
      unfold colons8 at h
      split at h
      · cases h; simp
      · obtain ⟨m, hm, rfl⟩ := Option.map_eq_some_iff.1 h
        have := ih hm
        simp only [List.length_cons] at this ⊢
        omega
theorem set_step9 {l z : List Nat} {i x : Nat} (hz : l.length ≤ z.length) (hx : l[i]? = some x) : (l.take i ++ z.drop i).set i x = l.take (i + 1) ++ z.drop (i + 1) := by
  obtain ⟨hi2, hx2⟩ := List.getElem?_eq_some_iff.1 hx
  have h1 : (l.take i).length = i := by rw [List.length_take]; omega
  rw [List.set_append_right _ _ (by omega), h1, Nat.sub_self, List.drop_eq_getElem_cons (by omega), List.set_cons_zero, List.take_succ_eq_append_getElem hi2, hx2]
  simp
theorem set_step10 {P b z : List Nat} {i x m : Nat} (hm : m = P.length + i) (hz : b.length ≤ z.length) (hx : b[i]? = some x) : (P ++ (b.take i ++ z.drop i)).set m x = P ++ (b.take (i + 1) ++ z.drop (i + 1)) := by
  rw [hm, List.set_append_right _ _ (by omega), Nat.add_sub_cancel_left, set_step9 hz hx]
theorem fill_part {a b : List Nat} (h : a.length + b.length ≤ 7) : (a ++ zero8.drop a.length).take (8 - b.length) = a ++ List.replicate (8 - a.length - b.length) 0 := by
  have hz : zero8 = List.replicate 8 0 := rfl
  rw [hz, List.drop_replicate, List.take_append, List.take_of_length_le (by omega), List.take_replicate]
  congr 2
  omega
theorem ext_head (s : ByteArray) (k : Nat) : (s.extract 0 k).data.toList = s.data.toList.take k := by
  rw [extract_btx]
  show (s.data.toList.drop 0).take (k - 0) = _
  simp
theorem ext_tail (s : ByteArray) (k : Nat) : (s.extract k s.size).data.toList = s.data.toList.drop k := by
  rw [extract_btx]
  show (s.data.toList.drop k).take (s.size - k) = _
  exact List.take_of_length_le (by rw [List.length_drop]; simp)
theorem ext_size (s : ByteArray) (a b : Nat) (h : s.size ≤ 4000) : (s.extract a b).size ≤ 4000 := by
  rw [extract_btx, btx_size, List.length_take, List.length_drop]
  have : s.data.toList.length = s.size := by simp
  omega

set_option maxHeartbeats 4000000 in
set_option maxRecDepth 100000 in
theorem parse8_e3 (s : ByteArray) (w : World) (hs : s.size ≤ 4000) (k : Nat) (hc : colons8 s.data.toList = some k) (ha : list8 (s.data.toList.take k) false = none) (hb : list8 (s.data.toList.drop (k + 2)) true = none) :
    Calls Tryz.prog 6 #[.string s] w (P8Post none w) := by
  have hkl := colons8_le hc
  have hsl : s.data.toList.length = s.size := by simp
  rw [hsl] at hkl
  have HCo : Hid (optI (colons8 s.data.toList) = (k : Int)) := by show optI (colons8 s.data.toList) = (k : Int); rw [hc]; rfl
  have HLa := Lib.hid (show list8 (s.extract 0 k).data.toList false = none by rw [ext_head]; exact ha)
  have HLb := Lib.hid (show list8 (s.extract (k + 2) s.size).data.toList true = none by rw [ext_tail]; exact hb)
  have HSa := Lib.hid (ext_size s 0 k hs)
  have HSb := Lib.hid (ext_size s (k + 2) s.size hs)
  clear hc ha hb hsl
  obtain ⟨W, hW⟩ : ∃ W, (w.alloc (.cells #[.int .u16 0, .int .u16 0, .int .u16 0, .int .u16 0, .int .u16 0, .int .u16 0, .int .u16 0, .int .u16 0] 24)).alloc (.cells #[.int .u16 0, .int .u16 0, .int .u16 0, .int .u16 0, .int .u16 0, .int .u16 0, .int .u16 0, .int .u16 0] 24) = W := ⟨_, rfl⟩
  have HB0 : Hid (Below w.heap.size w W) := by show Below w.heap.size w W; rw [← hW]; exact ((Below.refl _ _).alloc (Nat.le_refl _) _).alloc (by simp) _
  have HWs : Hid (W.heap.size = w.heap.size + 2) := by show W.heap.size = w.heap.size + 2; rw [← hW]; simp
  have HR0 : Hid (Row8 W w.heap.size zero8) := by
    show W.heap[w.heap.size]? = _
    rw [← hW, Below.heap_alloc _ _ _ (by simp)]; exact heap_alloc_new w _
  have HR1 : Hid (Row8 W (w.heap.size + 1) zero8) := by
    show W.heap[w.heap.size + 1]? = _
    rw [← hW]
    have := heap_alloc_new (w.alloc (.cells #[.int .u16 0, .int .u16 0, .int .u16 0, .int .u16 0, .int .u16 0, .int .u16 0, .int .u16 0, .int .u16 0] 24)) (.cells #[.int .u16 0, .int .u16 0, .int .u16 0, .int .u16 0, .int .u16 0, .int .u16 0, .int .u16 0, .int .u16 0] 24)
    simpa [zero8] using this
  go_enter Tryz.func6, Tryz.ntmps6
  go_wp2_with (first
    | (go_at_call 14; refine (colons8_is HCo.out _ (by omega)).mono ?_; rintro e w' ⟨rfl, rfl⟩)
    | (go_at_call 15; (with_reducible refine (list8_is HLa.out _ (by have := HSa.out; omega)).mono ?_); rintro e w1 ⟨rfl, hb1⟩
       have HB1 := Lib.hid hb1
       clear hb1)
    | (go_at_call 15; (with_reducible refine (list8_is HLb.out _ (by have := HSb.out; omega)).mono ?_); rintro e w2 ⟨rfl, hb2⟩
       have HB2 := Lib.hid (bnx8 HB1.out hb2)
       have r0 := HR0.out.below HB2.out
       have r1 := HR1.out.below HB2.out
       obtain ⟨p0, _⟩ := r1.at (j := 0) (x := 0) rfl
       obtain ⟨q0, z0⟩ := r0.at (j := 0) (x := 0) rfl
       obtain ⟨p1, _⟩ := r1.at (j := 1) (x := 0) rfl
       obtain ⟨q1, z1⟩ := r0.at (j := 1) (x := 0) rfl
       obtain ⟨p2, _⟩ := r1.at (j := 2) (x := 0) rfl
       obtain ⟨q2, z2⟩ := r0.at (j := 2) (x := 0) rfl
       obtain ⟨p3, _⟩ := r1.at (j := 3) (x := 0) rfl
       obtain ⟨q3, z3⟩ := r0.at (j := 3) (x := 0) rfl
       obtain ⟨p4, _⟩ := r1.at (j := 4) (x := 0) rfl
       obtain ⟨q4, z4⟩ := r0.at (j := 4) (x := 0) rfl
       obtain ⟨p5, _⟩ := r1.at (j := 5) (x := 0) rfl
       obtain ⟨q5, z5⟩ := r0.at (j := 5) (x := 0) rfl
       obtain ⟨p6, _⟩ := r1.at (j := 6) (x := 0) rfl
       obtain ⟨q6, z6⟩ := r0.at (j := 6) (x := 0) rfl
       obtain ⟨p7, _⟩ := r1.at (j := 7) (x := 0) rfl
       obtain ⟨q7, z7⟩ := r0.at (j := 7) (x := 0) rfl
       clear r0 r1
       clear hb2))
  refine bodyPost_ret (v := .tuple #[agg8 zero8, .int .i64 2]) ?_ rfl ?_
  · simp [results, Tryz.results6, go_sem, agg8, zero8, q0, q1, q2, q3, q4, q5, q6, q7]
  · refine ⟨rfl, ?_⟩
    have hb := HB0.out.trans (HB2.out.mono HB0.out.size)
    exact (((((((hb.setCell (by simp) _).setCell (by simp) _).setCell (by simp) _).setCell (by simp) _).setCell (by simp) _).setCell (by simp) _).setCell (by simp) _).setCell (by simp) _

set_option maxHeartbeats 4000000 in
set_option maxRecDepth 100000 in
theorem parse8_e4 (s : ByteArray) (w : World) (hs : s.size ≤ 4000) (b : List Nat) (k : Nat) (hc : colons8 s.data.toList = some k) (ha : list8 (s.data.toList.take k) false = none) (hb : list8 (s.data.toList.drop (k + 2)) true = some b) :
    Calls Tryz.prog 6 #[.string s] w (P8Post none w) := by
  have hkl := colons8_le hc
  have hsl : s.data.toList.length = s.size := by simp
  rw [hsl] at hkl
  have HCo : Hid (optI (colons8 s.data.toList) = (k : Int)) := by show optI (colons8 s.data.toList) = (k : Int); rw [hc]; rfl
  have HLa := Lib.hid (show list8 (s.extract 0 k).data.toList false = none by rw [ext_head]; exact ha)
  have HLb := Lib.hid (show list8 (s.extract (k + 2) s.size).data.toList true = (some b) by rw [ext_tail]; exact hb)
  have HSa := Lib.hid (ext_size s 0 k hs)
  have HSb := Lib.hid (ext_size s (k + 2) s.size hs)
  clear hc ha hb hsl
  obtain ⟨W, hW⟩ : ∃ W, (w.alloc (.cells #[.int .u16 0, .int .u16 0, .int .u16 0, .int .u16 0, .int .u16 0, .int .u16 0, .int .u16 0, .int .u16 0] 24)).alloc (.cells #[.int .u16 0, .int .u16 0, .int .u16 0, .int .u16 0, .int .u16 0, .int .u16 0, .int .u16 0, .int .u16 0] 24) = W := ⟨_, rfl⟩
  have HB0 : Hid (Below w.heap.size w W) := by show Below w.heap.size w W; rw [← hW]; exact ((Below.refl _ _).alloc (Nat.le_refl _) _).alloc (by simp) _
  have HWs : Hid (W.heap.size = w.heap.size + 2) := by show W.heap.size = w.heap.size + 2; rw [← hW]; simp
  have HR0 : Hid (Row8 W w.heap.size zero8) := by
    show W.heap[w.heap.size]? = _
    rw [← hW, Below.heap_alloc _ _ _ (by simp)]; exact heap_alloc_new w _
  have HR1 : Hid (Row8 W (w.heap.size + 1) zero8) := by
    show W.heap[w.heap.size + 1]? = _
    rw [← hW]
    have := heap_alloc_new (w.alloc (.cells #[.int .u16 0, .int .u16 0, .int .u16 0, .int .u16 0, .int .u16 0, .int .u16 0, .int .u16 0, .int .u16 0] 24)) (.cells #[.int .u16 0, .int .u16 0, .int .u16 0, .int .u16 0, .int .u16 0, .int .u16 0, .int .u16 0, .int .u16 0] 24)
    simpa [zero8] using this
  go_enter Tryz.func6, Tryz.ntmps6
  go_wp2_with (first
    | (go_at_call 14; refine (colons8_is HCo.out _ (by omega)).mono ?_; rintro e w' ⟨rfl, rfl⟩)
    | (go_at_call 15; (with_reducible refine (list8_is HLa.out _ (by have := HSa.out; omega)).mono ?_); rintro e w1 ⟨rfl, hb1⟩
       have HB1 := Lib.hid hb1
       clear hb1)
    | (go_at_call 15; (with_reducible refine (list8_is HLb.out _ (by have := HSb.out; omega)).mono ?_); rintro e w2 ⟨v2, rfl, hm2, hb2⟩
       obtain ⟨A2, c2, hv2⟩ := hm2.shape
       subst hv2
       have HMb := Lib.hid hm2
       clear hm2
       have HB2 := Lib.hid (bnx8 HB1.out hb2)
       have r0 := HR0.out.below HB2.out
       have r1 := HR1.out.below HB2.out
       obtain ⟨p0, _⟩ := r1.at (j := 0) (x := 0) rfl
       obtain ⟨q0, z0⟩ := r0.at (j := 0) (x := 0) rfl
       obtain ⟨p1, _⟩ := r1.at (j := 1) (x := 0) rfl
       obtain ⟨q1, z1⟩ := r0.at (j := 1) (x := 0) rfl
       obtain ⟨p2, _⟩ := r1.at (j := 2) (x := 0) rfl
       obtain ⟨q2, z2⟩ := r0.at (j := 2) (x := 0) rfl
       obtain ⟨p3, _⟩ := r1.at (j := 3) (x := 0) rfl
       obtain ⟨q3, z3⟩ := r0.at (j := 3) (x := 0) rfl
       obtain ⟨p4, _⟩ := r1.at (j := 4) (x := 0) rfl
       obtain ⟨q4, z4⟩ := r0.at (j := 4) (x := 0) rfl
       obtain ⟨p5, _⟩ := r1.at (j := 5) (x := 0) rfl
       obtain ⟨q5, z5⟩ := r0.at (j := 5) (x := 0) rfl
       obtain ⟨p6, _⟩ := r1.at (j := 6) (x := 0) rfl
       obtain ⟨q6, z6⟩ := r0.at (j := 6) (x := 0) rfl
       obtain ⟨p7, _⟩ := r1.at (j := 7) (x := 0) rfl
       obtain ⟨q7, z7⟩ := r0.at (j := 7) (x := 0) rfl
       clear r0 r1
       clear hb2))
  refine bodyPost_ret (v := .tuple #[agg8 zero8, .int .i64 2]) ?_ rfl ?_
  · simp [results, Tryz.results6, go_sem, agg8, zero8, q0, q1, q2, q3, q4, q5, q6, q7]
  · refine ⟨rfl, ?_⟩
    have hb := HB0.out.trans (HB2.out.mono HB0.out.size)
    exact (((((((hb.setCell (by simp) _).setCell (by simp) _).setCell (by simp) _).setCell (by simp) _).setCell (by simp) _).setCell (by simp) _).setCell (by simp) _).setCell (by simp) _

set_option maxHeartbeats 4000000 in
set_option maxRecDepth 100000 in
theorem parse8_e5 (s : ByteArray) (w : World) (hs : s.size ≤ 4000) (a : List Nat) (k : Nat) (hc : colons8 s.data.toList = some k) (ha : list8 (s.data.toList.take k) false = some a) (hb : list8 (s.data.toList.drop (k + 2)) true = none) :
    Calls Tryz.prog 6 #[.string s] w (P8Post none w) := by
  have hkl := colons8_le hc
  have hsl : s.data.toList.length = s.size := by simp
  rw [hsl] at hkl
  have HCo : Hid (optI (colons8 s.data.toList) = (k : Int)) := by show optI (colons8 s.data.toList) = (k : Int); rw [hc]; rfl
  have HLa := Lib.hid (show list8 (s.extract 0 k).data.toList false = (some a) by rw [ext_head]; exact ha)
  have HLb := Lib.hid (show list8 (s.extract (k + 2) s.size).data.toList true = none by rw [ext_tail]; exact hb)
  have HSa := Lib.hid (ext_size s 0 k hs)
  have HSb := Lib.hid (ext_size s (k + 2) s.size hs)
  clear hc ha hb hsl
  obtain ⟨W, hW⟩ : ∃ W, (w.alloc (.cells #[.int .u16 0, .int .u16 0, .int .u16 0, .int .u16 0, .int .u16 0, .int .u16 0, .int .u16 0, .int .u16 0] 24)).alloc (.cells #[.int .u16 0, .int .u16 0, .int .u16 0, .int .u16 0, .int .u16 0, .int .u16 0, .int .u16 0, .int .u16 0] 24) = W := ⟨_, rfl⟩
  have HB0 : Hid (Below w.heap.size w W) := by show Below w.heap.size w W; rw [← hW]; exact ((Below.refl _ _).alloc (Nat.le_refl _) _).alloc (by simp) _
  have HWs : Hid (W.heap.size = w.heap.size + 2) := by show W.heap.size = w.heap.size + 2; rw [← hW]; simp
  have HR0 : Hid (Row8 W w.heap.size zero8) := by
    show W.heap[w.heap.size]? = _
    rw [← hW, Below.heap_alloc _ _ _ (by simp)]; exact heap_alloc_new w _
  have HR1 : Hid (Row8 W (w.heap.size + 1) zero8) := by
    show W.heap[w.heap.size + 1]? = _
    rw [← hW]
    have := heap_alloc_new (w.alloc (.cells #[.int .u16 0, .int .u16 0, .int .u16 0, .int .u16 0, .int .u16 0, .int .u16 0, .int .u16 0, .int .u16 0] 24)) (.cells #[.int .u16 0, .int .u16 0, .int .u16 0, .int .u16 0, .int .u16 0, .int .u16 0, .int .u16 0, .int .u16 0] 24)
    simpa [zero8] using this
  go_enter Tryz.func6, Tryz.ntmps6
  go_wp2_with (first
    | (go_at_call 14; refine (colons8_is HCo.out _ (by omega)).mono ?_; rintro e w' ⟨rfl, rfl⟩)
    | (go_at_call 15; (with_reducible refine (list8_is HLa.out _ (by have := HSa.out; omega)).mono ?_); rintro e w1 ⟨v1, rfl, hm1, hb1⟩
       obtain ⟨A1, c1, hv1⟩ := hm1.shape
       subst hv1
       have HMa := Lib.hid hm1
       clear hm1
       have HB1 := Lib.hid hb1
       clear hb1)
    | (go_at_call 15; (with_reducible refine (list8_is HLb.out _ (by have := HSb.out; omega)).mono ?_); rintro e w2 ⟨rfl, hb2⟩
       have HB2 := Lib.hid (bnx8 HB1.out hb2)
       have r0 := HR0.out.below HB2.out
       have r1 := HR1.out.below HB2.out
       obtain ⟨p0, _⟩ := r1.at (j := 0) (x := 0) rfl
       obtain ⟨q0, z0⟩ := r0.at (j := 0) (x := 0) rfl
       obtain ⟨p1, _⟩ := r1.at (j := 1) (x := 0) rfl
       obtain ⟨q1, z1⟩ := r0.at (j := 1) (x := 0) rfl
       obtain ⟨p2, _⟩ := r1.at (j := 2) (x := 0) rfl
       obtain ⟨q2, z2⟩ := r0.at (j := 2) (x := 0) rfl
       obtain ⟨p3, _⟩ := r1.at (j := 3) (x := 0) rfl
       obtain ⟨q3, z3⟩ := r0.at (j := 3) (x := 0) rfl
       obtain ⟨p4, _⟩ := r1.at (j := 4) (x := 0) rfl
       obtain ⟨q4, z4⟩ := r0.at (j := 4) (x := 0) rfl
       obtain ⟨p5, _⟩ := r1.at (j := 5) (x := 0) rfl
       obtain ⟨q5, z5⟩ := r0.at (j := 5) (x := 0) rfl
       obtain ⟨p6, _⟩ := r1.at (j := 6) (x := 0) rfl
       obtain ⟨q6, z6⟩ := r0.at (j := 6) (x := 0) rfl
       obtain ⟨p7, _⟩ := r1.at (j := 7) (x := 0) rfl
       obtain ⟨q7, z7⟩ := r0.at (j := 7) (x := 0) rfl
       clear r0 r1
       clear hb2))
  refine bodyPost_ret (v := .tuple #[agg8 zero8, .int .i64 2]) ?_ rfl ?_
  · simp [results, Tryz.results6, go_sem, agg8, zero8, q0, q1, q2, q3, q4, q5, q6, q7]
  · refine ⟨rfl, ?_⟩
    have hb := HB0.out.trans (HB2.out.mono HB0.out.size)
    exact (((((((hb.setCell (by simp) _).setCell (by simp) _).setCell (by simp) _).setCell (by simp) _).setCell (by simp) _).setCell (by simp) _).setCell (by simp) _).setCell (by simp) _

set_option maxHeartbeats 4000000 in
set_option maxRecDepth 100000 in
theorem parse8_e6 (s : ByteArray) (w : World) (hs : s.size ≤ 4000) (a : List Nat) (b : List Nat) (k : Nat) (hc : colons8 s.data.toList = some k) (ha : list8 (s.data.toList.take k) false = some a) (hb : list8 (s.data.toList.drop (k + 2)) true = some b) (hab : 7 < a.length + b.length) (hal : a.length ≤ 10000) (hbl : b.length ≤ 10000) :
    Calls Tryz.prog 6 #[.string s] w (P8Post none w) := by
  have hkl := colons8_le hc
  have hsl : s.data.toList.length = s.size := by simp
  rw [hsl] at hkl
  have HCo : Hid (optI (colons8 s.data.toList) = (k : Int)) := by show optI (colons8 s.data.toList) = (k : Int); rw [hc]; rfl
  have HLa := Lib.hid (show list8 (s.extract 0 k).data.toList false = (some a) by rw [ext_head]; exact ha)
  have HLb := Lib.hid (show list8 (s.extract (k + 2) s.size).data.toList true = (some b) by rw [ext_tail]; exact hb)
  have HSa := Lib.hid (ext_size s 0 k hs)
  have HSb := Lib.hid (ext_size s (k + 2) s.size hs)
  clear hc ha hb hsl
  obtain ⟨W, hW⟩ : ∃ W, (w.alloc (.cells #[.int .u16 0, .int .u16 0, .int .u16 0, .int .u16 0, .int .u16 0, .int .u16 0, .int .u16 0, .int .u16 0] 24)).alloc (.cells #[.int .u16 0, .int .u16 0, .int .u16 0, .int .u16 0, .int .u16 0, .int .u16 0, .int .u16 0, .int .u16 0] 24) = W := ⟨_, rfl⟩
  have HB0 : Hid (Below w.heap.size w W) := by show Below w.heap.size w W; rw [← hW]; exact ((Below.refl _ _).alloc (Nat.le_refl _) _).alloc (by simp) _
  have HWs : Hid (W.heap.size = w.heap.size + 2) := by show W.heap.size = w.heap.size + 2; rw [← hW]; simp
  have HR0 : Hid (Row8 W w.heap.size zero8) := by
    show W.heap[w.heap.size]? = _
    rw [← hW, Below.heap_alloc _ _ _ (by simp)]; exact heap_alloc_new w _
  have HR1 : Hid (Row8 W (w.heap.size + 1) zero8) := by
    show W.heap[w.heap.size + 1]? = _
    rw [← hW]
    have := heap_alloc_new (w.alloc (.cells #[.int .u16 0, .int .u16 0, .int .u16 0, .int .u16 0, .int .u16 0, .int .u16 0, .int .u16 0, .int .u16 0] 24)) (.cells #[.int .u16 0, .int .u16 0, .int .u16 0, .int .u16 0, .int .u16 0, .int .u16 0, .int .u16 0, .int .u16 0] 24)
    simpa [zero8] using this
  go_enter Tryz.func6, Tryz.ntmps6
  go_wp2_with (first
    | (go_at_call 14; refine (colons8_is HCo.out _ (by omega)).mono ?_; rintro e w' ⟨rfl, rfl⟩)
    | (go_at_call 15; (with_reducible refine (list8_is HLa.out _ (by have := HSa.out; omega)).mono ?_); rintro e w1 ⟨v1, rfl, hm1, hb1⟩
       obtain ⟨A1, c1, hv1⟩ := hm1.shape
       subst hv1
       have HMa := Lib.hid hm1
       clear hm1
       have HB1 := Lib.hid hb1
       clear hb1)
    | (go_at_call 15; (with_reducible refine (list8_is HLb.out _ (by have := HSb.out; omega)).mono ?_); rintro e w2 ⟨v2, rfl, hm2, hb2⟩
       obtain ⟨A2, c2, hv2⟩ := hm2.shape
       subst hv2
       have HMb := Lib.hid hm2
       clear hm2
       have HB2 := Lib.hid (bnx8 HB1.out hb2)
       have r0 := HR0.out.below HB2.out
       have r1 := HR1.out.below HB2.out
       obtain ⟨p0, _⟩ := r1.at (j := 0) (x := 0) rfl
       obtain ⟨q0, z0⟩ := r0.at (j := 0) (x := 0) rfl
       obtain ⟨p1, _⟩ := r1.at (j := 1) (x := 0) rfl
       obtain ⟨q1, z1⟩ := r0.at (j := 1) (x := 0) rfl
       obtain ⟨p2, _⟩ := r1.at (j := 2) (x := 0) rfl
       obtain ⟨q2, z2⟩ := r0.at (j := 2) (x := 0) rfl
       obtain ⟨p3, _⟩ := r1.at (j := 3) (x := 0) rfl
       obtain ⟨q3, z3⟩ := r0.at (j := 3) (x := 0) rfl
       obtain ⟨p4, _⟩ := r1.at (j := 4) (x := 0) rfl
       obtain ⟨q4, z4⟩ := r0.at (j := 4) (x := 0) rfl
       obtain ⟨p5, _⟩ := r1.at (j := 5) (x := 0) rfl
       obtain ⟨q5, z5⟩ := r0.at (j := 5) (x := 0) rfl
       obtain ⟨p6, _⟩ := r1.at (j := 6) (x := 0) rfl
       obtain ⟨q6, z6⟩ := r0.at (j := 6) (x := 0) rfl
       obtain ⟨p7, _⟩ := r1.at (j := 7) (x := 0) rfl
       obtain ⟨q7, z7⟩ := r0.at (j := 7) (x := 0) rfl
       clear r0 r1
       clear hb2))
  refine bodyPost_ret (v := .tuple #[agg8 zero8, .int .i64 2]) ?_ rfl ?_
  · simp [results, Tryz.results6, go_sem, agg8, zero8, q0, q1, q2, q3, q4, q5, q6, q7]
  · refine ⟨rfl, ?_⟩
    have hb := HB0.out.trans (HB2.out.mono HB0.out.size)
    exact (((((((hb.setCell (by simp) _).setCell (by simp) _).setCell (by simp) _).setCell (by simp) _).setCell (by simp) _).setCell (by simp) _).setCell (by simp) _).setCell (by simp) _

end Go.Proofs.YtfodkkdggajjaaaGreatDoor

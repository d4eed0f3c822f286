/-
  In this text, one behind the other: YParse3, FIs, YCon, SixParse.
-/
import Derived.Laws.CopyOwn
import Derived.Laws.CopyRow
import Derived.Deep.RegionLaw
import Derived.Test.YtfodkkdggajjaaaGreatDoorG4
import Derived.Test.YtfodkkdggajjaaaGreatDoorG3
/-
  The document's Parse of layer 8: an address with a pair of colons; all of it.
-/
namespace Go.Proofs.YtfodkkdggajjaaaGreatDoor
open Go.RowKit

theorem fill_len {a b : List Nat} (h : a.length + b.length ≤ 7) : (fill8 a b).length = 8 := by unfold fill8; simp; omega

set_option maxHeartbeats 4000000 in
set_option maxRecDepth 100000 in
theorem parse8_s2 (s : ByteArray) (w : World) (hs : s.size ≤ 4000) (a b : List Nat) (k : Nat) (hc : colons8 s.data.toList = some k) (ha : list8 (s.data.toList.take k) false = some a) (hb : list8 (s.data.toList.drop (k + 2)) true = some b) (hab : a.length + b.length ≤ 7) :
    Calls Tryz.prog 6 #[.string s] w (P8Post (some (fill8 a b)) w) := by
  have hkl := colons8_le hc
  have hsl : s.data.toList.length = s.size := by simp
  rw [hsl] at hkl
  have HCo : Hid (optI (colons8 s.data.toList) = (k : Int)) := by show optI (colons8 s.data.toList) = (k : Int); rw [hc]; rfl
  have HLa := Lib.hid (show list8 (s.extract 0 k).data.toList false = (some a) by rw [ext_head]; exact ha)
  have HLb := Lib.hid (show list8 (s.extract (k + 2) s.size).data.toList true = (some b) by rw [ext_tail]; exact hb)
  have HSa := Lib.hid (ext_size s 0 k hs)
  have HSb := Lib.hid (ext_size s (k + 2) s.size hs)
  clear hc ha hb hsl
  obtain ⟨W, hW⟩ : ∃ W, (w.alloc (.cells #[.int .u16 0, .int .u16 0, .int .u16 0, .int .u16 0, .int .u16 0, .int .u16 0, .int .u16 0, .int .u16 0] 24)).alloc (.cells #[.int .u16 0, .int .u16 0, .int .u16 0, .int .u16 0, .int .u16 0, .int .u16 0, .int .u16 0, .int .u16 0] 24) = W := ⟨_, rfl⟩
  have HB0 : Hid (Below w.heap.size w W) := by show Below w.heap.size w W; rw [← hW]; exact ((Below.refl _ _).alloc (Nat.le_refl _) _).alloc (by simp) _
  have HWs : Hid (W.heap.size = w.heap.size + 2) := by show W.heap.size = w.heap.size + 2; rw [← hW]; simp
  have HR0 : Hid (Row8 W w.heap.size zero8) := by
    show W.heap[w.heap.size]? = _
    rw [← hW, Below.heap_alloc _ _ _ (by simp)]; exact heap_alloc_new w _
  have HR1 : Hid (Row8 W (w.heap.size + 1) zero8) := by
    show W.heap[w.heap.size + 1]? = _
    rw [← hW]
    have := heap_alloc_new (w.alloc (.cells #[.int .u16 0, .int .u16 0, .int .u16 0, .int .u16 0, .int .u16 0, .int .u16 0, .int .u16 0, .int .u16 0] 24)) (.cells #[.int .u16 0, .int .u16 0, .int .u16 0, .int .u16 0, .int .u16 0, .int .u16 0, .int .u16 0, .int .u16 0] 24)
    simpa [zero8] using this
  obtain ⟨F, hF⟩ : ∃ F, fill8 a b = F := ⟨_, rfl⟩
  rw [hF]
  have HF := Lib.hid hF
  have HFl : Hid (F.length = 8) := by show F.length = 8; rw [← hF]; exact fill_len hab
  obtain ⟨P, hP⟩ : ∃ P, (a ++ zero8.drop a.length).take (8 - b.length) = P := ⟨_, rfl⟩
  have HPl : Hid (P.length = 8 - b.length) := by
    show P.length = 8 - b.length
    rw [← hP, List.length_take, List.length_append, List.length_drop]
    show min (8 - b.length) (a.length + (8 - a.length)) = 8 - b.length
    omega
  have HPf : Hid (P ++ b = F) := by
    show P ++ b = F
    rw [← hP, fill_part hab, ← hF]; rfl
  obtain ⟨Zr, hZr⟩ : ∃ Zr, (a ++ zero8.drop a.length).drop (8 - b.length) = Zr := ⟨_, rfl⟩
  have HZl : Hid (Zr.length = b.length) := by
    show Zr.length = b.length
    rw [← hZr, List.length_drop, List.length_append, List.length_drop]
    show a.length + (8 - a.length) - (8 - b.length) = b.length
    omega
  have HPz : Hid (a ++ zero8.drop a.length = P ++ Zr) := by
    show a ++ zero8.drop a.length = P ++ Zr
    rw [← hP, ← hZr, List.take_append_drop]
  clear hF hP hZr
  go_enter Tryz.func6, Tryz.ntmps6
  go_wp2_with (first
    | (go_at_call 14; refine (colons8_is HCo.out _ (by omega)).mono ?_; rintro e w' ⟨rfl, rfl⟩)
    | (go_at_call 15; (with_reducible refine (list8_is HLa.out _ (by have := HSa.out; omega)).mono ?_); rintro e w1 ⟨v1, rfl, hm1, hb1⟩
       obtain ⟨A1, c1, hv1⟩ := hm1.shape
       subst hv1
       have HMa := Lib.hid hm1
       clear hm1
       have HB1 := Lib.hid hb1
       clear hb1)
    | (go_at_call 15; (with_reducible refine (list8_is HLb.out _ (by have := HSb.out; omega)).mono ?_); rintro e w2 ⟨v2, rfl, hm2, hb2⟩
       obtain ⟨A2, c2, hv2⟩ := hm2.shape
       subst hv2
       have HMb := Lib.hid hm2
       clear hm2
       have HB2 := Lib.hid (bnx8 HB1.out hb2)
       have HMa := Lib.hid (HMa.out.below hb2)
       clear hb2))
  go_loopw [13] (fun v13 wr => ∃ i : Nat, i ≤ a.length ∧ v13 = .int .i64 i ∧ Row8 wr (w.heap.size + 1) (a.take i ++ zero8.drop i) ∧ Row8 wr w.heap.size zero8 ∧ MadeH W.heap.size wr (.slice A1 a.length c1) a ∧ MadeH W.heap.size wr (.slice A2 b.length c2) b ∧ Below w.heap.size w wr) (fun v13 _ => a.length - (intOf v13).toNat)
  case atStart => exact ⟨0, by omega, rfl, HR1.out.below HB2.out, HR0.out.below HB2.out, HMa.out, HMb.out.lower HB1.out.size, HB0.out.trans (HB2.out.mono HB0.out.size)⟩
  case round =>
    obtain ⟨i, hi, rfl, r1, r0, hma, hmb, hb⟩ := hrel
    by_cases hi8 : i < a.length
    · have hx := getD_at8 (l := a) (k := i) hi8
      obtain ⟨x, hxx⟩ : ∃ x, a.getD i 0 = x := ⟨_, rfl⟩
      rw [hxx] at hx
      obtain ⟨g2, c3, e2, hB2, hc⟩ := hma.cellAt hx
      have e3 : A1 = some ⟨g2, 0, none⟩ := by simp only [Value.slice.injEq] at e2; exact e2.1
      subst e3
      obtain ⟨y, hy⟩ : ∃ y, (a.take i ++ zero8.drop i)[i]? = some y := ⟨_, List.getElem?_eq_getElem (by simp [zero8]; omega)⟩
      obtain ⟨ho, hf⟩ := r1.at hy
      have HA := Lib.hid (And.intro r1 (And.intro r0 (And.intro hma (And.intro hmb hb))))
      have HX := Lib.hid hx
      have hi7 : i < 8 := by omega
      clear r1 r0 hma hmb hb hx hxx e2 hy
      go_wp2
      go_roundw
      case rel =>
        obtain ⟨r1, r0, hma, hmb, hb⟩ := HA.out
        refine ⟨i + 1, by omega, by go_num, ?_, r0.other (by simp) _, hma.setOther (by have := HWs.out; simp; omega) _, hmb.setOther (by have := HWs.out; simp; omega) _, hb.setCell (by simp) _⟩
        have := r1.put i x
        rw [set_step9 (by simp [zero8]; omega) HX.out] at this
        exact this
      case measure => simp [intOf]; omega
    · have r1b : Row8 wr (w.heap.size + 1) (P ++ (b.take 0 ++ Zr.drop 0)) := by
        rw [List.take_zero, List.drop_zero, List.nil_append, ← HPz.out]
        have e : i = a.length := by omega
        rw [e, List.take_of_length_le (Nat.le_refl _)] at r1
        exact r1
      have HA := Lib.hid (And.intro r1b (And.intro r0 (And.intro hmb hb)))
      clear r1 r1b r0 hma hmb hb
      go_wp2
      go_loopw [14] (fun v14 wx => ∃ j : Nat, j ≤ b.length ∧ v14 = .int .i64 j ∧ Row8 wx (w.heap.size + 1) (P ++ (b.take j ++ Zr.drop j)) ∧ Row8 wx w.heap.size zero8 ∧ MadeH W.heap.size wx (.slice A2 b.length c2) b ∧ Below w.heap.size w wx) (fun v14 _ => b.length - (intOf v14).toNat)
      case atStart => exact ⟨0, by omega, rfl, HA.out.1, HA.out.2.1, HA.out.2.2.1, HA.out.2.2.2⟩
      case round =>
        obtain ⟨j, hj, rfl, r1, r0, hmb, hb⟩ := hrel
        by_cases hj8 : j < b.length
        · have hx := getD_at8 (l := b) (k := j) hj8
          obtain ⟨x, hxx⟩ : ∃ x, b.getD j 0 = x := ⟨_, rfl⟩
          rw [hxx] at hx
          obtain ⟨g2, c3, e2, hB2, hc⟩ := hmb.cellAt hx
          have e3 : A2 = some ⟨g2, 0, none⟩ := by simp only [Value.slice.injEq] at e2; exact e2.1
          subst e3
          obtain ⟨m, hm⟩ : ∃ m, 8 - b.length + j = m := ⟨_, rfl⟩
          have hmi : (8 : Int) - (b.length : Int) + (j : Int) = (m : Int) := by omega
          have hm8 : m < 8 := by omega
          obtain ⟨y, hy⟩ : ∃ y, (P ++ (b.take j ++ Zr.drop j))[m]? = some y := ⟨_, List.getElem?_eq_getElem (by rw [List.length_append, List.length_append, List.length_take, List.length_drop, HPl.out, HZl.out]; omega)⟩
          obtain ⟨ho, hf⟩ := r1.at hy
          have HAb := Lib.hid (And.intro r1 (And.intro r0 (And.intro hmb hb)))
          have HX := Lib.hid hx
          have HMm := Lib.hid hm
          clear r1 r0 hmb hb hx hxx e2 hy hm
          go_wp2
          go_roundw
          case rel =>
            obtain ⟨r1, r0, hmb, hb⟩ := HAb.out
            refine ⟨j + 1, by omega, by go_num, ?_, r0.other (by simp) _, hmb.setOther (by have := HWs.out; simp; omega) _, hb.setCell (by simp) _⟩
            have := r1.put m x
            rw [set_step10 (by rw [HPl.out]; exact HMm.out.symm) (by rw [HZl.out]; exact Nat.le_refl _) HX.out] at this
            exact this
          case measure => simp [intOf]; omega
        · rw [List.take_of_length_le (by omega), List.drop_eq_nil_of_le (by rw [HZl.out]; omega), List.append_nil, HPf.out] at r1
          have r1f := r1
          have HBf := Lib.hid hb
          have HR0f := Lib.hid r0
          have HR1f := Lib.hid r1f
          clear r1 r1f r0 hmb hb HPf HF HA HPz
          obtain ⟨x0, x1, x2, x3, x4, x5, x6, x7, hFx⟩ : ∃ x0 x1 x2 x3 x4 x5 x6 x7 : Nat, F = [x0, x1, x2, x3, x4, x5, x6, x7] := by
            have hl := HFl.out
            match F, hl with
            | [x0, x1, x2, x3, x4, x5, x6, x7], _ => exact ⟨x0, x1, x2, x3, x4, x5, x6, x7, rfl⟩
          have HFx := Lib.hid hFx
          have r0 := HR0f.out
          have r1 := HR1f.out
          rw [hFx] at r1
          clear hFx
          obtain ⟨p0, _⟩ := r1.at (j := 0) (x := x0) rfl
          obtain ⟨q0, z0⟩ := r0.at (j := 0) (x := 0) rfl
          obtain ⟨p1, _⟩ := r1.at (j := 1) (x := x1) rfl
          obtain ⟨q1, z1⟩ := r0.at (j := 1) (x := 0) rfl
          obtain ⟨p2, _⟩ := r1.at (j := 2) (x := x2) rfl
          obtain ⟨q2, z2⟩ := r0.at (j := 2) (x := 0) rfl
          obtain ⟨p3, _⟩ := r1.at (j := 3) (x := x3) rfl
          obtain ⟨q3, z3⟩ := r0.at (j := 3) (x := 0) rfl
          obtain ⟨p4, _⟩ := r1.at (j := 4) (x := x4) rfl
          obtain ⟨q4, z4⟩ := r0.at (j := 4) (x := 0) rfl
          obtain ⟨p5, _⟩ := r1.at (j := 5) (x := x5) rfl
          obtain ⟨q5, z5⟩ := r0.at (j := 5) (x := 0) rfl
          obtain ⟨p6, _⟩ := r1.at (j := 6) (x := x6) rfl
          obtain ⟨q6, z6⟩ := r0.at (j := 6) (x := 0) rfl
          obtain ⟨p7, _⟩ := r1.at (j := 7) (x := x7) rfl
          obtain ⟨q7, z7⟩ := r0.at (j := 7) (x := 0) rfl
          clear r0 r1
          go_wp2
          rw [HFx.out]
          refine bodyPost_ret (v := .tuple #[agg8 [x0, x1, x2, x3, x4, x5, x6, x7], .int .i64 0]) ?_ rfl ?_
          · simp [results, Tryz.results6, go_sem, agg8, zero8, q0, q1, q2, q3, q4, q5, q6, q7]
          · refine ⟨rfl, ?_⟩
            have hb := HBf.out
            exact (((((((hb.setCell (by simp) _).setCell (by simp) _).setCell (by simp) _).setCell (by simp) _).setCell (by simp) _).setCell (by simp) _).setCell (by simp) _).setCell (by simp) _


theorem pieces8_len (last : Bool) : ∀ (ps : List (List UInt8)) (l : List Nat), pieces8 last ps = some l → l.length ≤ ps.length + 1 := by
  intro ps
  induction ps with
  | nil => intro l h; cases h; simp
  | cons p ps ih =>
    intro l h
    cases ps with
    | nil =>
      unfold pieces8 at h
      split at h
      · cases h; simp
      · obtain ⟨n, hn, rfl⟩ := Option.map_eq_some_iff.1 h; simp
    | cons q ps =>
      unfold pieces8 at h
      split at h
      · rename_i n ns hn hns
        cases h
        have := ih _ hns
        simp only [List.length_cons] at this ⊢
        omega
      · cases h
theorem list8_len {s : List UInt8} {last : Bool} {l : List Nat} (h : list8 s last = some l) (hs : s.length ≤ 4000) : l.length ≤ 10000 := by
  unfold list8 at h
  split at h
  · cases h; simp
  · have h1 := pieces8_len last _ _ h
    have h2 := cut7_length 58 s
    omega
theorem parse8_any (s : ByteArray) (w : World) (hs : s.size ≤ 4000) : Calls Tryz.prog 6 #[.string s] w (P8Post (parse8 s.data.toList) w) := by
  have hsl : s.data.toList.length = s.size := by simp
  unfold parse8
  cases hc : colons8 s.data.toList with
  | none =>
    simp only
    cases hl : list8 s.data.toList true with
    | none => exact parse8_e1 s w hs hc hl
    | some l =>
      simp only
      by_cases h8 : l.length = 8
      · rw [if_pos h8]
        match l, h8, hl with
        | [x0, x1, x2, x3, x4, x5, x6, x7], _, hl => exact parse8_s1 s w hs x0 x1 x2 x3 x4 x5 x6 x7 hc hl
      · rw [if_neg h8]
        exact parse8_e2 s w hs l hc hl h8 (list8_len hl (by omega))
  | some k =>
    simp only
    have h1 : (s.data.toList.take k).length ≤ 4000 := by rw [List.length_take]; omega
    have h2 : (s.data.toList.drop (k + 2)).length ≤ 4000 := by rw [List.length_drop]; omega
    cases ha : list8 (s.data.toList.take k) false with
    | none =>
      cases hb : list8 (s.data.toList.drop (k + 2)) true with
      | none => exact parse8_e3 s w hs k hc ha hb
      | some b => exact parse8_e4 s w hs b k hc ha hb
    | some a =>
      cases hb : list8 (s.data.toList.drop (k + 2)) true with
      | none => exact parse8_e5 s w hs a k hc ha hb
      | some b =>
        simp only
        by_cases hab : a.length + b.length ≤ 7
        · rw [if_pos hab]
          exact parse8_s2 s w hs a b k hc ha hb hab
        · rw [if_neg hab]
          exact parse8_e6 s w hs a b k hc ha hb (by omega) (list8_len ha h1) (list8_len hb h2)
end Go.Proofs.YtfodkkdggajjaaaGreatDoor

/-
  errors.is and errors.Is, of a chain that ends in a number, against a number.
-/
namespace Go.Proofs.YtfodkkdggajjaaaGreatDoor
open Go.RowKit Go.Extern.Stop Go.Stop Go.Extern

theorem eql_in (P : Program) (w : World) (d : Nat) {ti tn : TypeId} {ms : Array (String × TypeId)} {i : TypeInfo} {k : IntKind} (a b : Int)
    (hi : P.underlying ti = some (.interface ms)) (hn : P.underlying tn = some (.int k)) (hinfo : P.info? tn = some i) (hcomp : i.comparable = true) :
    (Op.equalIn (d + 2) ti (.iface tn (.int k a)) (.iface tn (.int k b))).run P w = .ok (a == b) w := by
  simp [Op.equalIn, run_underlying hi, run_underlying hn, typeInfo, hinfo, hcomp]
/-- Two numbers of one type, as values of an interface. -/
theorem eql_numbers (a b : Int) (w : World) : (binOp .eql 26 (.iface 31 (.int .i64 a)) (.iface 31 (.int .i64 b))).run Tryz.prog w = .ok (.bool (a == b)) w := by
  obtain ⟨i, hi, hc⟩ := Option.map_eq_some_iff.1 (show (Tryz.prog.info? 31).map (·.comparable) = some true by kernel_rfl)
  simp only [binOp]
  simp [Op.equal, Op.maxDepth, eql_in Tryz.prog w 9998 a b Tryz.underlying26 Tryz.underlying31 hi hc]
theorem eql_types (p : Addr) (b : Int) (w : World) : (binOp .eql 26 (.iface 86 (.pointer (some p))) (.iface 31 (.int .i64 b))).run Tryz.prog w = .ok (.bool false) w :=
  run_eql_iface_types _ _ _ _ Tryz.underlying26 (by decide) w
theorem comparableE (w : World) : (callFunc 111 #[.agg #[.pointer (some ⟨9, 31, none⟩)]]).run Tryz.prog w = .ok (.value (.bool true)) w := by kernel_rfl

def IsRel (w : World) (n : Int) (k : Nat) (p : Value) (wr : World) : Prop := wr = w ∧ ∃ cs, cs.length = k ∧ Chain w cs (some n) p

set_option maxHeartbeats 4000000 in
set_option maxRecDepth 100000 in
theorem is1_any (cs : List ByteArray) (n m : Int) (u : TypeId) (x : Value) (w : World) (hc : Chain w cs (some n) (.iface u x)) :
    Calls Tryz.prog 20 #[.iface u x, .iface 31 (.int .i64 m), .bool true] w fun e w' => e = .returned (.bool (n == m)) ∧ w = w' := by
  have HC := Lib.hid hc
  clear hc
  have mU := methodUnwrap
  have isE := assertIsE
  have isF := assertIsF
  have o1E := assertOneE
  have o1F := assertOneF
  have omE := assertManyE
  have eN := eql_numbers
  have eT := eql_types
  go_enter Tryz.func20, Tryz.ntmps20
  go_wp2
  go_loopg [0] cs.length (fun k p wr => IsRel w n k p wr)
  case atStart => exact ⟨rfl, cs, rfl, HC.out⟩
  case round =>
    obtain ⟨rfl, ds, hk, hch⟩ := hrel
    cases ds with
    | nil =>
      obtain rfl : _ = Value.iface 31 (.int .i64 n) := hch
      clear hk
      by_cases hnm : (n == m) = true
      · go_wp2
        go_ret
        exact ⟨by rw [hnm]; rfl, rfl⟩
      · have hf : (n == m) = false := by simpa using hnm
        clear hnm
        go_wp2
        go_ret
        exact ⟨by rw [hf]; rfl, rfl⟩
    | cons d ds =>
      obtain ⟨b, v', rfl, hlt, hc0, hc1, hrest⟩ := hch
      obtain ⟨u2, x2, rfl⟩ := hrest.held
      have HR := Lib.hid hrest
      have HK := Lib.hid hk
      clear hrest hk
      go_wp2_with (go_at_call 121; refine (unwrap_at b _ _ hc1).mono ?_; rintro e w' ⟨rfl, rfl⟩)
      go_roundg ds.length
      case measure => rw [← HK.out]; simp
      case rel => exact ⟨rfl, ds, rfl, HR.out⟩

set_option maxHeartbeats 4000000 in
set_option maxRecDepth 100000 in
theorem is_any (cs : List ByteArray) (n m : Int) (u : TypeId) (x : Value) (w : World) (hc : Chain w cs (some n) (.iface u x)) :
    Calls Tryz.prog 9 #[.iface u x, .iface 31 (.int .i64 m)] w fun e w' => e = .returned (.bool (n == m)) ∧ w = w' := by
  have HC := Lib.hid hc
  clear hc
  have x25 := @run_callFunc_extern Tryz.prog 19 _ ReflectliteType.typeOf Tryz.func19 (by kernel_rfl) (by kernel_rfl) (by kernel_rfl) (by kernel_rfl)
  have tOE := typeOfE
  have mC := methodComparable
  have cE := comparableE
  go_enter Tryz.func9, Tryz.ntmps9
  go_wp2_with (go_at_call 20; refine (is1_any cs n m u x _ HC.out).mono ?_; rintro e w' ⟨rfl, rfl⟩)
  go_ret
  exact ⟨rfl, rfl⟩
end Go.Proofs.YtfodkkdggajjaaaGreatDoor

/-
  What the program's Parse and Text of layer 8 are held against: their contracts, as hypotheses; the example.
-/
namespace Go.Proofs.YtfodkkdggajjaaaGreatDoor
open Go.RowKit

def Yes8 (w : World) (e : Ending) (w' : World) : Prop := e = .returned (.bool true) ∧ Below w.heap.size w w'
/-- An address and no error; or eight noughts and an error of the form. -/
def SixPost (o : Option (List Nat)) (w : World) (e : Ending) (w' : World) : Prop := match o with
  | none => ∃ cs u x, e = .returned (.tuple #[agg8 zero8, .iface u x]) ∧ Chain w' cs (some 2) (.iface u x) ∧ Below w.heap.size w w'
  | some c => e = .returned (.tuple #[agg8 c, .nilIface]) ∧ Below w.heap.size w w'
/-- The program's Parse and Text do as the document says, in every world behind w0. -/
structure SixC (w0 : World) : Prop where
  parse : ∀ (s : ByteArray) (w : World), Below w0.heap.size w0 w → s.size ≤ 200 → Calls Tryz.prog 5 #[.string s] w (SixPost (parse8 s.data.toList) w)
  text : ∀ (c : List Nat) (w : World), Below w0.heap.size w0 w → c.length = 8 → (∀ n ∈ c, n < 65536) → Calls Tryz.prog 8 #[agg8 c] w (Quiet8 (btx (text8 c)) w)

theorem six_ok {w0 : World} (C : SixC w0) {s : ByteArray} {c : List Nat} (h : parse8 s.data.toList = some c) (hs : s.size ≤ 200) (w : World) (hw : Below w0.heap.size w0 w) :
    Calls Tryz.prog 5 #[.string s] w fun e w' => e = .returned (.tuple #[agg8 c, .nilIface]) ∧ Below w.heap.size w w' := by
  have := C.parse s w hw hs
  rw [h] at this
  exact this
theorem six_no {w0 : World} (C : SixC w0) {s : ByteArray} (h : parse8 s.data.toList = none) (hs : s.size ≤ 200) (w : World) (hw : Below w0.heap.size w0 w) :
    Calls Tryz.prog 5 #[.string s] w fun e w' => ∃ cs u x, e = .returned (.tuple #[agg8 zero8, .iface u x]) ∧ Chain w' cs (some 2) (.iface u x) ∧ Below w.heap.size w w' := by
  have := C.parse s w hw hs
  rw [h] at this
  exact this
theorem six_a : parse8 (⟨#[49, 58, 58, 50, 46, 51, 46, 52, 46, 53]⟩ : ByteArray).data.toList = some [1, 0, 0, 0, 0, 0, 515, 1029] := by decide +kernel
theorem six_b : parse8 (⟨#[49, 58, 48, 58, 48, 58, 50, 58, 58, 58]⟩ : ByteArray).data.toList = none := by decide +kernel
theorem six_c : btx (text8 [1, 0, 0, 0, 0, 0, 515, 1029]) = ⟨#[49, 58, 58, 50, 48, 51, 58, 52, 48, 53]⟩ := by decide +kernel
theorem six_d : btx (text8 zero8) = ⟨#[58, 58]⟩ := by decide +kernel
theorem cell_kept8 {w w2 : World} {c : Array Value} {t : TypeId} (h : Below (w.alloc (.cells c t)).heap.size (w.alloc (.cells c t)) w2) {j : Nat} {v : Value} (hv : c[j]? = some v) : w2.cell? ⟨w.heap.size, j, none⟩ = some v := by
  refine (h.cell (p := ⟨w.heap.size, j, none⟩) (by simp)).trans ?_
  rw [World.cell?_alloc_at _ _ _ _ rfl]; exact hv
theorem size_lt8 {w w2 : World} {o : Obj} (h : Below (w.alloc o).heap.size (w.alloc o) w2) : w.heap.size < w2.heap.size := by
  have := h.size
  simp at this
  omega
theorem bnxa8 {W a b : World} {o : Obj} (h : Below W.heap.size W a) (k : Below (a.alloc o).heap.size (a.alloc o) b) : Below W.heap.size W b := bnx8 (h.alloc h.size o) k
theorem ip8_a {w0 : World} (C : SixC w0) (w : World) (hw : Below w0.heap.size w0 w) : Calls Tryz.prog 5 #[.string ⟨#[49, 58, 58, 50, 46, 51, 46, 52, 46, 53]⟩] w fun e w' => e = .returned (.tuple #[.agg #[.int .u16 1, .int .u16 0, .int .u16 0, .int .u16 0, .int .u16 0, .int .u16 0, .int .u16 515, .int .u16 1029], .nilIface]) ∧ Below w.heap.size w w' := six_ok C six_a (by decide) w hw
theorem ip8_b {w0 : World} (C : SixC w0) (w : World) (hw : Below w0.heap.size w0 w) : Calls Tryz.prog 5 #[.string ⟨#[49, 58, 48, 58, 48, 58, 50, 58, 58, 58]⟩] w fun e w' => ∃ cs u x, e = .returned (.tuple #[.agg #[.int .u16 0, .int .u16 0, .int .u16 0, .int .u16 0, .int .u16 0, .int .u16 0, .int .u16 0, .int .u16 0], .iface u x]) ∧ Chain w' cs (some 2) (.iface u x) ∧ Below w.heap.size w w' := six_no C six_b (by decide) w hw
theorem ip8_c {w0 : World} (C : SixC w0) (w : World) (hw : Below w0.heap.size w0 w) : Calls Tryz.prog 8 #[.agg #[.int .u16 1, .int .u16 0, .int .u16 0, .int .u16 0, .int .u16 0, .int .u16 0, .int .u16 515, .int .u16 1029]] w fun e w' => e = .returned (.string ⟨#[49, 58, 58, 50, 48, 51, 58, 52, 48, 53]⟩) ∧ Below w.heap.size w w' := by
  have := C.text [1, 0, 0, 0, 0, 0, 515, 1029] w hw rfl (by decide)
  rw [six_c] at this
  exact this
theorem ip8_d {w0 : World} (C : SixC w0) (w : World) (hw : Below w0.heap.size w0 w) : Calls Tryz.prog 8 #[.agg #[.int .u16 0, .int .u16 0, .int .u16 0, .int .u16 0, .int .u16 0, .int .u16 0, .int .u16 0, .int .u16 0]] w fun e w' => e = .returned (.string ⟨#[58, 58]⟩) ∧ Below w.heap.size w w' := by
  have := C.text zero8 w hw rfl (by decide)
  rw [six_d] at this
  exact this

theorem same_lit8 (W : World) : Sem.run Tryz.prog (Op.equalIn 10000 24 (.agg #[.int .u16 1, .int .u16 0, .int .u16 0, .int .u16 0, .int .u16 0, .int .u16 0, .int .u16 515, .int .u16 1029]) (.agg #[.int .u16 1, .int .u16 0, .int .u16 0, .int .u16 0, .int .u16 0, .int .u16 0, .int .u16 515, .int .u16 1029])) W = .ok true W := by kernel_rfl

set_option maxHeartbeats 2000000 in
set_option maxRecDepth 100000 in
theorem awake8 {w : World} (C : SixC w) : Calls Tryz.prog 4 #[] w (Yes8 w) := by
  have HC := Lib.hid C
  have HB := Lib.hid (Below.refl w.heap.size w)
  have hsame := same_lit8
  clear C
  go_enter Tryz.func4, Tryz.ntmps4
  go_wp2_with (first
    | (go_at_call 5; (with_reducible refine (ip8_a HC.out _ HB.out).mono ?_); rintro e w1 ⟨rfl, hb⟩; have HB := Lib.hid (bnx8 HB.out hb); clear hb)
    | (go_at_call 5; (with_reducible refine (ip8_b HC.out _ (HB.out.alloc HB.out.size _)).mono ?_); rintro e w2 ⟨cs2, u2, x2, rfl, hch, hb⟩; have HC2 := Lib.hid hch; have hlt12 := size_lt8 hb; have k0 := cell_kept8 hb (j := 0) rfl; have k1 := cell_kept8 hb (j := 1) rfl; have k2 := cell_kept8 hb (j := 2) rfl; have k3 := cell_kept8 hb (j := 3) rfl; have k4 := cell_kept8 hb (j := 4) rfl; have k5 := cell_kept8 hb (j := 5) rfl; have k6 := cell_kept8 hb (j := 6) rfl; have k7 := cell_kept8 hb (j := 7) rfl; have HB := Lib.hid (bnxa8 HB.out hb); clear hb hch)
    | (go_at_call 8; (with_reducible refine (ip8_c HC.out _ (HB.out.alloc HB.out.size _)).mono ?_); rintro e w3 ⟨rfl, hb⟩; have HC2 := Lib.hid ((HC2.out.below ((Below.refl _ _).alloc (Nat.le_refl _) _)).below hb); have HB := Lib.hid (bnxa8 HB.out hb); clear hb)
    | (go_at_call 8; (with_reducible refine (ip8_d HC.out _ HB.out).mono ?_); rintro e w4 ⟨rfl, hb⟩; have HC2 := Lib.hid (HC2.out.below hb); have HB := Lib.hid (bnx8 HB.out hb); clear hb)
    | (go_at_call 9; (with_reducible refine (is_any _ 2 2 u2 x2 _ HC2.out).mono ?_); rintro e w' ⟨rfl, rfl⟩))
  go_ret
  exact ⟨rfl, HB.out⟩
end Go.Proofs.YtfodkkdggajjaaaGreatDoor

/-
  The program's Parse of layer 8, by its contract.
-/
namespace Go.Proofs.YtfodkkdggajjaaaGreatDoor
open Go.RowKit

/-- An error of the package: wherever its block is as it was. -/
theorem wrap8_any (n : Int) (w : World) :
    Calls Tryz.prog 13 #[.iface 31 (.int .i64 n)] w fun e w' => ∃ cs b u' x', e = .returned (.iface u' x') ∧ w.heap.size ≤ b ∧ (∀ W : World, W.heap[b]? = w'.heap[b]? → Chain W cs (some n) (.iface u' x')) ∧ Below w.heap.size w w' := by
  go_enter Tryz.func13, Tryz.ntmps13
  go_wp2_with (go_at_call 25; refine (wrap_held _ _ _ _).mono ?_; rintro e w' ⟨rfl, rfl⟩)
  go_ret
  refine ⟨[⟨#[105, 112, 115, 105, 120]⟩], w.heap.size, _, _, rfl, Nat.le_refl _, fun W hW => ?_, (Below.refl _ _).alloc (Nat.le_refl _) _⟩
  obtain ⟨b, v', e, hl, h0, h1, h2⟩ := Chain.lay (w := w) (cs := []) (o := some n) ⟨#[105, 112, 115, 105, 120]⟩ rfl
  cases e
  have hlt : w.heap.size < W.heap.size := by
    rw [heap_alloc_new] at hW
    exact (Array.getElem?_eq_some_iff.1 hW).1
  refine ⟨_, v', rfl, hlt, ?_, ?_, h2⟩
  · rw [← h0]; simp only [World.cell?, hW]
  · rw [← h1]; simp only [World.cell?, hW]
theorem ne8 {g n b : Nat} (h : g < n) (hb : n ≤ b) : b ≠ g := by omega
theorem put8_other (W : World) (g b : Nat) (h : b ≠ g) (v0 v1 v2 v3 v4 v5 v6 v7 : Value) : ((((((((W.setCell ⟨g, 0, none⟩ v0).setCell ⟨g, 1, none⟩ v1).setCell ⟨g, 2, none⟩ v2).setCell ⟨g, 3, none⟩ v3).setCell ⟨g, 4, none⟩ v4).setCell ⟨g, 5, none⟩ v5).setCell ⟨g, 6, none⟩ v6).setCell ⟨g, 7, none⟩ v7).heap[b]? = W.heap[b]? := by
  rw [Below.heap_setCell _ _ _ _ h, Below.heap_setCell _ _ _ _ h, Below.heap_setCell _ _ _ _ h, Below.heap_setCell _ _ _ _ h, Below.heap_setCell _ _ _ _ h, Below.heap_setCell _ _ _ _ h, Below.heap_setCell _ _ _ _ h, Below.heap_setCell _ _ _ _ h]
theorem fits_any (n : Nat) (c t : Bool) (h : (if c then decide (n < 8) else decide (n = 8)) = t) (w : World) :
    Calls Tryz.prog 12 #[.int .i64 (n : Int), .bool c] w fun e w' => e = .returned (.bool t) ∧ w = w' := by
  cases c with
  | true =>
    go_enter Tryz.func12, Tryz.ntmps12
    go_wp2
    go_ret
    refine ⟨?_, rfl⟩
    subst h
    show Ending.returned (.bool (decide ((n : Int) < 8))) = .returned (.bool (decide (n < 8)))
    congr 3
    exact propext ⟨fun h => by omega, fun h => by omega⟩
  | false =>
    go_enter Tryz.func12, Tryz.ntmps12
    go_wp2
    go_ret
    refine ⟨?_, rfl⟩
    subst h
    show Ending.returned (.bool ((n : Int) == 8)) = .returned (.bool (decide (n = 8)))
    congr 2
    rw [Bool.eq_iff_iff, beq_iff_eq, decide_eq_true_iff]
    omega
theorem read_ok {s : ByteArray} {last : Bool} {l : List Nat} {x0 x1 x2 x3 x4 x5 x6 x7 : Nat} (h : side8 s.data.toList last = some l) (hp : padN 8 l = [x0, x1, x2, x3, x4, x5, x6, x7]) (hs : s.size ≤ 10000) (w : World) (hv : V8 w) :
    Calls Tryz.prog 11 #[.string s, .bool last] w fun e w' => e = .returned (.tuple #[.agg #[.int .u16 (x0 : Int), .int .u16 (x1 : Int), .int .u16 (x2 : Int), .int .u16 (x3 : Int), .int .u16 (x4 : Int), .int .u16 (x5 : Int), .int .u16 (x6 : Int), .int .u16 (x7 : Int)], .int .i64 (l.length : Nat), .bool true]) ∧ Below w.heap.size w w' := by
  refine (read_any s last hs w hv _ h).mono ?_
  rintro e w' ⟨he, hb⟩
  rw [hp] at he
  exact ⟨he, hb⟩
theorem read_no {s : ByteArray} {last : Bool} (h : side8 s.data.toList last = none) (hs : s.size ≤ 10000) (w : World) (hv : V8 w) :
    Calls Tryz.prog 11 #[.string s, .bool last] w fun e w' => ∃ x0 x1 x2 x3 x4 x5 x6 x7 : Nat, e = .returned (.tuple #[.agg #[.int .u16 (x0 : Int), .int .u16 (x1 : Int), .int .u16 (x2 : Int), .int .u16 (x3 : Int), .int .u16 (x4 : Int), .int .u16 (x5 : Int), .int .u16 (x6 : Int), .int .u16 (x7 : Int)], .int .i64 0, .bool false]) ∧ Below w.heap.size w w' := by
  refine (read_any s last hs w hv _ h).mono ?_
  rintro e w' ⟨c, hc, he, hb⟩
  obtain ⟨x0, x1, x2, x3, x4, x5, x6, x7, rfl⟩ := eight_of8 hc
  exact ⟨x0, x1, x2, x3, x4, x5, x6, x7, he, hb⟩
theorem sides_size (s : ByteArray) (k : Nat) (hs : s.size ≤ 10000) : (btx (s.data.toList.take k)).size ≤ 10000 ∧ (btx (s.data.toList.drop (k + 2))).size ≤ 10000 := by
  have : s.data.toList.length = s.size := by simp
  rw [btx_size, btx_size, List.length_take, List.length_drop]
  omega
theorem pair_no {s : ByteArray} (h : colons8 s.data.toList = none) (hs : s.size ≤ 10000) (w : World) (hv : V8 w) :
    Calls Tryz.prog 10 #[.string s, .string ⟨#[58, 58]⟩] w fun e w' => e = .returned (.tuple #[.string s, .string ⟨#[]⟩, .bool false]) ∧ Below w.heap.size w w' := cutAny8 s ⟨#[58, 58]⟩ _ _ _ (cut_pair_none h) w hv hs
theorem pair_yes {s : ByteArray} {k : Nat} (h : colons8 s.data.toList = some k) (hs : s.size ≤ 10000) (w : World) (hv : V8 w) :
    Calls Tryz.prog 10 #[.string s, .string ⟨#[58, 58]⟩] w fun e w' => e = .returned (.tuple #[.string (btx (s.data.toList.take k)), .string (btx (s.data.toList.drop (k + 2))), .bool true]) ∧ Below w.heap.size w w' := cutAny8 s ⟨#[58, 58]⟩ _ _ _ (cut_pair_some h) w hv hs
/-- Eight pieces, and an error or none, of a result that lies in a block. -/
theorem parse_res {W : World} {g : Nat} {x0 x1 x2 x3 x4 x5 x6 x7 : Nat} (h : RowU 24 W g [x0, x1, x2, x3, x4, x5, x6, x7]) (tmps : Array Value) (n : Value) (h4 : tmps.getD 2 undef = .pointer (some ⟨g, 0, none⟩)) (h5 : tmps.getD 3 undef = n) :
    (results Tryz.f5 tmps).run Tryz.prog W = .ok (.tuple #[.agg #[.int .u16 (x0 : Int), .int .u16 (x1 : Int), .int .u16 (x2 : Int), .int .u16 (x3 : Int), .int .u16 (x4 : Int), .int .u16 (x5 : Int), .int .u16 (x6 : Int), .int .u16 (x7 : Int)], n]) W := by
  obtain ⟨c0, c1, c2, c3, c4, c5, c6, c7, f0, f1, f2, f3, f4, f5, f6, f7⟩ := rows8 h
  rw [Array.getD_eq_getD_getElem?] at h4 h5
  simp [results, Tryz.results5, go_sem, h4, h5, c0, c1, c2, c3, c4, c5, c6, c7]

theorem bel8 (o : Obj) (w : World) : Below w.heap.size w (w.alloc o) := (Below.refl _ _).alloc (Nat.le_refl _) _
theorem bal8 {w W : World} (h : Below w.heap.size w W) (o : Obj) : Below w.heap.size w (W.alloc o) := h.alloc h.size o

set_option maxHeartbeats 4000000 in
set_option maxRecDepth 100000 in
theorem parse_e1 (s : ByteArray) (hs : s.size ≤ 10000) (w : World) (hv : V8 w) (hc : colons8 s.data.toList = none) (h1 : side8 s.data.toList true = none) : Calls Tryz.prog 5 #[.string s] w (SixPost none w) := by
  have HCut := Lib.hid (fun w hv => pair_no hc hs w hv)
  have HRd1 := Lib.hid (fun w hv => read_no h1 hs w hv)
  have HRd2 := Lib.hid (fun w hv => read_ok (s := ⟨#[]⟩) (side8_nil true) (hp := rfl) (by decide) w hv)
  clear hc h1
  have HR0 : Hid (RowU 24 (w.alloc (.cells #[.int .u16 0, .int .u16 0, .int .u16 0, .int .u16 0, .int .u16 0, .int .u16 0, .int .u16 0, .int .u16 0] 24)) w.heap.size zero8) := by
    show RowU _ _ _ _
    exact RowU.new 24 w zero8
  have HB0 : Hid (Below w.heap.size w (w.alloc (.cells #[.int .u16 0, .int .u16 0, .int .u16 0, .int .u16 0, .int .u16 0, .int .u16 0, .int .u16 0, .int .u16 0] 24))) := bel8 _ _
  have HV0 : Hid (V8 (w.alloc (.cells #[.int .u16 0, .int .u16 0, .int .u16 0, .int .u16 0, .int .u16 0, .int .u16 0, .int .u16 0, .int .u16 0] 24))) := hv.below (bel8 _ _)
  clear hv
  go_enter Tryz.func5, Tryz.ntmps5
  go_wp2_with (first
    | (go_at_call 10; (with_reducible refine (HCut.out _ HV0.out).mono ?_); rintro e w1 ⟨rfl, hb⟩; have HB1 := Lib.hid (bnx8 HB0.out hb); have HV1 := Lib.hid (HV0.out.below hb); have HR1 := Lib.hid (HR0.out.below hb); clear hb)
    | (go_at_call 11; (with_reducible refine (HRd2.out _ HV2b.out).mono ?_); rintro e w3 ⟨rfl, hb⟩; have HB3 := Lib.hid (bnx8 HB2b.out hb); have HR3 := Lib.hid (HR2b.out.below hb); have HA3 := Lib.hid (HA2.out.below hb); have HB3b := Lib.hid (bal8 HB3.out (.cells #[.int .u16 0, .int .u16 0, .int .u16 0, .int .u16 0, .int .u16 0, .int .u16 0, .int .u16 0, .int .u16 0] 24)); have HR3b := Lib.hid (HR3.out.below (bel8 (.cells #[.int .u16 0, .int .u16 0, .int .u16 0, .int .u16 0, .int .u16 0, .int .u16 0, .int .u16 0, .int .u16 0] 24) w3)); have HA3b := Lib.hid (HA3.out.below (bel8 (.cells #[.int .u16 0, .int .u16 0, .int .u16 0, .int .u16 0, .int .u16 0, .int .u16 0, .int .u16 0, .int .u16 0] 24) w3)); have HC3 := Lib.hid (RowU.new 24 w3 zero8); clear hb)
    | (go_at_call 11; (with_reducible refine (HRd1.out _ HV1.out).mono ?_); rintro e w2 ⟨x0, x1, x2, x3, x4, x5, x6, x7, rfl, hb⟩; have HB2 := Lib.hid (bnx8 HB1.out hb); have HV2 := Lib.hid (HV1.out.below hb); have HR2 := Lib.hid (HR1.out.below hb); have HB2b := Lib.hid (bal8 HB2.out (.cells #[.int .u16 (x0 : Int), .int .u16 (x1 : Int), .int .u16 (x2 : Int), .int .u16 (x3 : Int), .int .u16 (x4 : Int), .int .u16 (x5 : Int), .int .u16 (x6 : Int), .int .u16 (x7 : Int)] 24)); have HV2b := Lib.hid (HV2.out.below (bel8 (.cells #[.int .u16 (x0 : Int), .int .u16 (x1 : Int), .int .u16 (x2 : Int), .int .u16 (x3 : Int), .int .u16 (x4 : Int), .int .u16 (x5 : Int), .int .u16 (x6 : Int), .int .u16 (x7 : Int)] 24) w2)); have HR2b := Lib.hid (HR2.out.below (bel8 (.cells #[.int .u16 (x0 : Int), .int .u16 (x1 : Int), .int .u16 (x2 : Int), .int .u16 (x3 : Int), .int .u16 (x4 : Int), .int .u16 (x5 : Int), .int .u16 (x6 : Int), .int .u16 (x7 : Int)] 24) w2)); have HA2 := Lib.hid (RowU.new 24 w2 [x0, x1, x2, x3, x4, x5, x6, x7]); clear hb)
    | (go_at_call 13; (with_reducible refine (wrap8_any 2 _).mono ?_); rintro e w5 ⟨cs, b, u', x', rfl, hbge, hch, hb⟩; have HCh := Lib.hid hch; have HBg := Lib.hid (ne8 HR3b.out.lt hbge); have HB5 := Lib.hid (bnx8 HB3b.out hb); have HR5 := Lib.hid (HR3b.out.below hb); obtain ⟨c0, c1, c2, c3, c4, c5, c6, c7, f0, f1, f2, f3, f4, f5, f6, f7⟩ := rows8 HR5.out; have hgl5 := HR5.out.lt; clear hb hch hbge))
  refine bodyPost_ret (parse_res (put8_rows HR5.out rfl 0 0 0 0 0 0 0 0) _ (.iface u' x') rfl rfl) rfl ?_
  exact ⟨cs, u', x', rfl, HCh.out _ (put8_other _ _ _ HBg.out _ _ _ _ _ _ _ _), below_put8 (Nat.le_refl _) HB5.out _ _ _ _ _ _ _ _⟩

set_option maxHeartbeats 4000000 in
set_option maxRecDepth 100000 in
theorem parse_e2 (s : ByteArray) (hs : s.size ≤ 10000) (w : World) (hv : V8 w) (hc : colons8 s.data.toList = none) (l : List Nat) (h1 : side8 s.data.toList true = some l) (h8 : l.length ≠ 8) : Calls Tryz.prog 5 #[.string s] w (SixPost none w) := by
  have hl8 := (side8_len h1).1
  obtain ⟨x0, x1, x2, x3, x4, x5, x6, x7, hp⟩ := eight_of8 (padN_len hl8)
  have HCut := Lib.hid (fun w hv => pair_no hc hs w hv)
  have HRd1 := Lib.hid (fun w hv => read_ok h1 hp hs w hv)
  have HRd2 := Lib.hid (fun w hv => read_ok (s := ⟨#[]⟩) (side8_nil true) (hp := rfl) (by decide) w hv)
  have HFit := Lib.hid (fits_any l.length false false (by simp [h8]))
  clear hc h1 hp
  have HR0 : Hid (RowU 24 (w.alloc (.cells #[.int .u16 0, .int .u16 0, .int .u16 0, .int .u16 0, .int .u16 0, .int .u16 0, .int .u16 0, .int .u16 0] 24)) w.heap.size zero8) := by
    show RowU _ _ _ _
    exact RowU.new 24 w zero8
  have HB0 : Hid (Below w.heap.size w (w.alloc (.cells #[.int .u16 0, .int .u16 0, .int .u16 0, .int .u16 0, .int .u16 0, .int .u16 0, .int .u16 0, .int .u16 0] 24))) := bel8 _ _
  have HV0 : Hid (V8 (w.alloc (.cells #[.int .u16 0, .int .u16 0, .int .u16 0, .int .u16 0, .int .u16 0, .int .u16 0, .int .u16 0, .int .u16 0] 24))) := hv.below (bel8 _ _)
  clear hv
  go_enter Tryz.func5, Tryz.ntmps5
  go_wp2_with (first
    | (go_at_call 10; (with_reducible refine (HCut.out _ HV0.out).mono ?_); rintro e w1 ⟨rfl, hb⟩; have HB1 := Lib.hid (bnx8 HB0.out hb); have HV1 := Lib.hid (HV0.out.below hb); have HR1 := Lib.hid (HR0.out.below hb); clear hb)
    | (go_at_call 11; (with_reducible refine (HRd2.out _ HV2b.out).mono ?_); rintro e w3 ⟨rfl, hb⟩; have HB3 := Lib.hid (bnx8 HB2b.out hb); have HR3 := Lib.hid (HR2b.out.below hb); have HA3 := Lib.hid (HA2.out.below hb); have HB3b := Lib.hid (bal8 HB3.out (.cells #[.int .u16 0, .int .u16 0, .int .u16 0, .int .u16 0, .int .u16 0, .int .u16 0, .int .u16 0, .int .u16 0] 24)); have HR3b := Lib.hid (HR3.out.below (bel8 (.cells #[.int .u16 0, .int .u16 0, .int .u16 0, .int .u16 0, .int .u16 0, .int .u16 0, .int .u16 0, .int .u16 0] 24) w3)); have HA3b := Lib.hid (HA3.out.below (bel8 (.cells #[.int .u16 0, .int .u16 0, .int .u16 0, .int .u16 0, .int .u16 0, .int .u16 0, .int .u16 0, .int .u16 0] 24) w3)); have HC3 := Lib.hid (RowU.new 24 w3 zero8); clear hb)
    | (go_at_call 11; (with_reducible refine (HRd1.out _ HV1.out).mono ?_); rintro e w2 ⟨rfl, hb⟩; have HB2 := Lib.hid (bnx8 HB1.out hb); have HV2 := Lib.hid (HV1.out.below hb); have HR2 := Lib.hid (HR1.out.below hb); have HB2b := Lib.hid (bal8 HB2.out (.cells #[.int .u16 (x0 : Int), .int .u16 (x1 : Int), .int .u16 (x2 : Int), .int .u16 (x3 : Int), .int .u16 (x4 : Int), .int .u16 (x5 : Int), .int .u16 (x6 : Int), .int .u16 (x7 : Int)] 24)); have HV2b := Lib.hid (HV2.out.below (bel8 (.cells #[.int .u16 (x0 : Int), .int .u16 (x1 : Int), .int .u16 (x2 : Int), .int .u16 (x3 : Int), .int .u16 (x4 : Int), .int .u16 (x5 : Int), .int .u16 (x6 : Int), .int .u16 (x7 : Int)] 24) w2)); have HR2b := Lib.hid (HR2.out.below (bel8 (.cells #[.int .u16 (x0 : Int), .int .u16 (x1 : Int), .int .u16 (x2 : Int), .int .u16 (x3 : Int), .int .u16 (x4 : Int), .int .u16 (x5 : Int), .int .u16 (x6 : Int), .int .u16 (x7 : Int)] 24) w2)); have HA2 := Lib.hid (RowU.new 24 w2 [x0, x1, x2, x3, x4, x5, x6, x7]); clear hb)
    | (go_at_call 12; (with_reducible refine (HFit.out _).mono ?_); rintro e w9 ⟨rfl, rfl⟩)
    | (go_at_call 13; (with_reducible refine (wrap8_any 2 _).mono ?_); rintro e w5 ⟨cs, b, u', x', rfl, hbge, hch, hb⟩; have HCh := Lib.hid hch; have HBg := Lib.hid (ne8 HR3b.out.lt hbge); have HB5 := Lib.hid (bnx8 HB3b.out hb); have HR5 := Lib.hid (HR3b.out.below hb); obtain ⟨c0, c1, c2, c3, c4, c5, c6, c7, f0, f1, f2, f3, f4, f5, f6, f7⟩ := rows8 HR5.out; have hgl5 := HR5.out.lt; clear hb hch hbge))
  refine bodyPost_ret (parse_res (put8_rows HR5.out rfl 0 0 0 0 0 0 0 0) _ (.iface u' x') rfl rfl) rfl ?_
  exact ⟨cs, u', x', rfl, HCh.out _ (put8_other _ _ _ HBg.out _ _ _ _ _ _ _ _), below_put8 (Nat.le_refl _) HB5.out _ _ _ _ _ _ _ _⟩

set_option maxHeartbeats 4000000 in
set_option maxRecDepth 100000 in
theorem parse_e3 (s : ByteArray) (hs : s.size ≤ 10000) (w : World) (hv : V8 w) (k : Nat) (hc : colons8 s.data.toList = some k) (h1 : side8 (s.data.toList.take k) false = none) (b : List Nat) (h2 : side8 (s.data.toList.drop (k + 2)) true = some b) : Calls Tryz.prog 5 #[.string s] w (SixPost none w) := by
  obtain ⟨hs1, hs2⟩ := sides_size s k hs
  have HCut := Lib.hid (fun w hv => pair_yes hc hs w hv)
  have hb8 := (side8_len h2).1
  obtain ⟨y0, y1, y2, y3, y4, y5, y6, y7, hq⟩ := eight_of8 (padN_len hb8)
  have HRd1 := Lib.hid (fun w hv => read_no (s := btx (s.data.toList.take k)) h1 hs1 w hv)
  have HRd2 := Lib.hid (fun w hv => read_ok (s := btx (s.data.toList.drop (k + 2))) h2 hq hs2 w hv)
  generalize btx (s.data.toList.take k) = p at hs1 HCut HRd1
  generalize btx (s.data.toList.drop (k + 2)) = q at hs2 HCut HRd2
  clear hc h1 h2 hq hs1 hs2
  have HR0 : Hid (RowU 24 (w.alloc (.cells #[.int .u16 0, .int .u16 0, .int .u16 0, .int .u16 0, .int .u16 0, .int .u16 0, .int .u16 0, .int .u16 0] 24)) w.heap.size zero8) := by
    show RowU _ _ _ _
    exact RowU.new 24 w zero8
  have HB0 : Hid (Below w.heap.size w (w.alloc (.cells #[.int .u16 0, .int .u16 0, .int .u16 0, .int .u16 0, .int .u16 0, .int .u16 0, .int .u16 0, .int .u16 0] 24))) := bel8 _ _
  have HV0 : Hid (V8 (w.alloc (.cells #[.int .u16 0, .int .u16 0, .int .u16 0, .int .u16 0, .int .u16 0, .int .u16 0, .int .u16 0, .int .u16 0] 24))) := hv.below (bel8 _ _)
  clear hv
  go_enter Tryz.func5, Tryz.ntmps5
  go_wp2_with (first
    | (go_at_call 10; (with_reducible refine (HCut.out _ HV0.out).mono ?_); rintro e w1 ⟨rfl, hb⟩; have HB1 := Lib.hid (bnx8 HB0.out hb); have HV1 := Lib.hid (HV0.out.below hb); have HR1 := Lib.hid (HR0.out.below hb); clear hb)
    | (go_at_call 11; (with_reducible refine (HRd2.out _ HV2b.out).mono ?_); rintro e w3 ⟨rfl, hb⟩; have HB3 := Lib.hid (bnx8 HB2b.out hb); have HR3 := Lib.hid (HR2b.out.below hb); have HA3 := Lib.hid (HA2.out.below hb); have HB3b := Lib.hid (bal8 HB3.out (.cells #[.int .u16 (y0 : Int), .int .u16 (y1 : Int), .int .u16 (y2 : Int), .int .u16 (y3 : Int), .int .u16 (y4 : Int), .int .u16 (y5 : Int), .int .u16 (y6 : Int), .int .u16 (y7 : Int)] 24)); have HR3b := Lib.hid (HR3.out.below (bel8 (.cells #[.int .u16 (y0 : Int), .int .u16 (y1 : Int), .int .u16 (y2 : Int), .int .u16 (y3 : Int), .int .u16 (y4 : Int), .int .u16 (y5 : Int), .int .u16 (y6 : Int), .int .u16 (y7 : Int)] 24) w3)); have HA3b := Lib.hid (HA3.out.below (bel8 (.cells #[.int .u16 (y0 : Int), .int .u16 (y1 : Int), .int .u16 (y2 : Int), .int .u16 (y3 : Int), .int .u16 (y4 : Int), .int .u16 (y5 : Int), .int .u16 (y6 : Int), .int .u16 (y7 : Int)] 24) w3)); have HC3 := Lib.hid (RowU.new 24 w3 [y0, y1, y2, y3, y4, y5, y6, y7]); clear hb)
    | (go_at_call 11; (with_reducible refine (HRd1.out _ HV1.out).mono ?_); rintro e w2 ⟨x0, x1, x2, x3, x4, x5, x6, x7, rfl, hb⟩; have HB2 := Lib.hid (bnx8 HB1.out hb); have HV2 := Lib.hid (HV1.out.below hb); have HR2 := Lib.hid (HR1.out.below hb); have HB2b := Lib.hid (bal8 HB2.out (.cells #[.int .u16 (x0 : Int), .int .u16 (x1 : Int), .int .u16 (x2 : Int), .int .u16 (x3 : Int), .int .u16 (x4 : Int), .int .u16 (x5 : Int), .int .u16 (x6 : Int), .int .u16 (x7 : Int)] 24)); have HV2b := Lib.hid (HV2.out.below (bel8 (.cells #[.int .u16 (x0 : Int), .int .u16 (x1 : Int), .int .u16 (x2 : Int), .int .u16 (x3 : Int), .int .u16 (x4 : Int), .int .u16 (x5 : Int), .int .u16 (x6 : Int), .int .u16 (x7 : Int)] 24) w2)); have HR2b := Lib.hid (HR2.out.below (bel8 (.cells #[.int .u16 (x0 : Int), .int .u16 (x1 : Int), .int .u16 (x2 : Int), .int .u16 (x3 : Int), .int .u16 (x4 : Int), .int .u16 (x5 : Int), .int .u16 (x6 : Int), .int .u16 (x7 : Int)] 24) w2)); have HA2 := Lib.hid (RowU.new 24 w2 [x0, x1, x2, x3, x4, x5, x6, x7]); clear hb)
    | (go_at_call 13; (with_reducible refine (wrap8_any 2 _).mono ?_); rintro e w5 ⟨cs, b, u', x', rfl, hbge, hch, hb⟩; have HCh := Lib.hid hch; have HBg := Lib.hid (ne8 HR3b.out.lt hbge); have HB5 := Lib.hid (bnx8 HB3b.out hb); have HR5 := Lib.hid (HR3b.out.below hb); obtain ⟨c0, c1, c2, c3, c4, c5, c6, c7, f0, f1, f2, f3, f4, f5, f6, f7⟩ := rows8 HR5.out; have hgl5 := HR5.out.lt; clear hb hch hbge))
  refine bodyPost_ret (parse_res (put8_rows HR5.out rfl 0 0 0 0 0 0 0 0) _ (.iface u' x') rfl rfl) rfl ?_
  exact ⟨cs, u', x', rfl, HCh.out _ (put8_other _ _ _ HBg.out _ _ _ _ _ _ _ _), below_put8 (Nat.le_refl _) HB5.out _ _ _ _ _ _ _ _⟩

set_option maxHeartbeats 4000000 in
set_option maxRecDepth 100000 in
theorem parse_e4 (s : ByteArray) (hs : s.size ≤ 10000) (w : World) (hv : V8 w) (k : Nat) (hc : colons8 s.data.toList = some k) (h1 : side8 (s.data.toList.take k) false = none) (h2 : side8 (s.data.toList.drop (k + 2)) true = none) : Calls Tryz.prog 5 #[.string s] w (SixPost none w) := by
  obtain ⟨hs1, hs2⟩ := sides_size s k hs
  have HCut := Lib.hid (fun w hv => pair_yes hc hs w hv)
  have HRd1 := Lib.hid (fun w hv => read_no (s := btx (s.data.toList.take k)) h1 hs1 w hv)
  have HRd2 := Lib.hid (fun w hv => read_no (s := btx (s.data.toList.drop (k + 2))) h2 hs2 w hv)
  generalize btx (s.data.toList.take k) = p at hs1 HCut HRd1
  generalize btx (s.data.toList.drop (k + 2)) = q at hs2 HCut HRd2
  clear hc h1 h2 hs1 hs2
  have HR0 : Hid (RowU 24 (w.alloc (.cells #[.int .u16 0, .int .u16 0, .int .u16 0, .int .u16 0, .int .u16 0, .int .u16 0, .int .u16 0, .int .u16 0] 24)) w.heap.size zero8) := by
    show RowU _ _ _ _
    exact RowU.new 24 w zero8
  have HB0 : Hid (Below w.heap.size w (w.alloc (.cells #[.int .u16 0, .int .u16 0, .int .u16 0, .int .u16 0, .int .u16 0, .int .u16 0, .int .u16 0, .int .u16 0] 24))) := bel8 _ _
  have HV0 : Hid (V8 (w.alloc (.cells #[.int .u16 0, .int .u16 0, .int .u16 0, .int .u16 0, .int .u16 0, .int .u16 0, .int .u16 0, .int .u16 0] 24))) := hv.below (bel8 _ _)
  clear hv
  go_enter Tryz.func5, Tryz.ntmps5
  go_wp2_with (first
    | (go_at_call 10; (with_reducible refine (HCut.out _ HV0.out).mono ?_); rintro e w1 ⟨rfl, hb⟩; have HB1 := Lib.hid (bnx8 HB0.out hb); have HV1 := Lib.hid (HV0.out.below hb); have HR1 := Lib.hid (HR0.out.below hb); clear hb)
    | (go_at_call 11; (with_reducible refine (HRd2.out _ HV2b.out).mono ?_); rintro e w3 ⟨y0, y1, y2, y3, y4, y5, y6, y7, rfl, hb⟩; have HB3 := Lib.hid (bnx8 HB2b.out hb); have HR3 := Lib.hid (HR2b.out.below hb); have HA3 := Lib.hid (HA2.out.below hb); have HB3b := Lib.hid (bal8 HB3.out (.cells #[.int .u16 (y0 : Int), .int .u16 (y1 : Int), .int .u16 (y2 : Int), .int .u16 (y3 : Int), .int .u16 (y4 : Int), .int .u16 (y5 : Int), .int .u16 (y6 : Int), .int .u16 (y7 : Int)] 24)); have HR3b := Lib.hid (HR3.out.below (bel8 (.cells #[.int .u16 (y0 : Int), .int .u16 (y1 : Int), .int .u16 (y2 : Int), .int .u16 (y3 : Int), .int .u16 (y4 : Int), .int .u16 (y5 : Int), .int .u16 (y6 : Int), .int .u16 (y7 : Int)] 24) w3)); have HA3b := Lib.hid (HA3.out.below (bel8 (.cells #[.int .u16 (y0 : Int), .int .u16 (y1 : Int), .int .u16 (y2 : Int), .int .u16 (y3 : Int), .int .u16 (y4 : Int), .int .u16 (y5 : Int), .int .u16 (y6 : Int), .int .u16 (y7 : Int)] 24) w3)); have HC3 := Lib.hid (RowU.new 24 w3 [y0, y1, y2, y3, y4, y5, y6, y7]); clear hb)
    | (go_at_call 11; (with_reducible refine (HRd1.out _ HV1.out).mono ?_); rintro e w2 ⟨x0, x1, x2, x3, x4, x5, x6, x7, rfl, hb⟩; have HB2 := Lib.hid (bnx8 HB1.out hb); have HV2 := Lib.hid (HV1.out.below hb); have HR2 := Lib.hid (HR1.out.below hb); have HB2b := Lib.hid (bal8 HB2.out (.cells #[.int .u16 (x0 : Int), .int .u16 (x1 : Int), .int .u16 (x2 : Int), .int .u16 (x3 : Int), .int .u16 (x4 : Int), .int .u16 (x5 : Int), .int .u16 (x6 : Int), .int .u16 (x7 : Int)] 24)); have HV2b := Lib.hid (HV2.out.below (bel8 (.cells #[.int .u16 (x0 : Int), .int .u16 (x1 : Int), .int .u16 (x2 : Int), .int .u16 (x3 : Int), .int .u16 (x4 : Int), .int .u16 (x5 : Int), .int .u16 (x6 : Int), .int .u16 (x7 : Int)] 24) w2)); have HR2b := Lib.hid (HR2.out.below (bel8 (.cells #[.int .u16 (x0 : Int), .int .u16 (x1 : Int), .int .u16 (x2 : Int), .int .u16 (x3 : Int), .int .u16 (x4 : Int), .int .u16 (x5 : Int), .int .u16 (x6 : Int), .int .u16 (x7 : Int)] 24) w2)); have HA2 := Lib.hid (RowU.new 24 w2 [x0, x1, x2, x3, x4, x5, x6, x7]); clear hb)
    | (go_at_call 13; (with_reducible refine (wrap8_any 2 _).mono ?_); rintro e w5 ⟨cs, b, u', x', rfl, hbge, hch, hb⟩; have HCh := Lib.hid hch; have HBg := Lib.hid (ne8 HR3b.out.lt hbge); have HB5 := Lib.hid (bnx8 HB3b.out hb); have HR5 := Lib.hid (HR3b.out.below hb); obtain ⟨c0, c1, c2, c3, c4, c5, c6, c7, f0, f1, f2, f3, f4, f5, f6, f7⟩ := rows8 HR5.out; have hgl5 := HR5.out.lt; clear hb hch hbge))
  refine bodyPost_ret (parse_res (put8_rows HR5.out rfl 0 0 0 0 0 0 0 0) _ (.iface u' x') rfl rfl) rfl ?_
  exact ⟨cs, u', x', rfl, HCh.out _ (put8_other _ _ _ HBg.out _ _ _ _ _ _ _ _), below_put8 (Nat.le_refl _) HB5.out _ _ _ _ _ _ _ _⟩

set_option maxHeartbeats 4000000 in
set_option maxRecDepth 100000 in
theorem parse_e5 (s : ByteArray) (hs : s.size ≤ 10000) (w : World) (hv : V8 w) (k : Nat) (hc : colons8 s.data.toList = some k) (a : List Nat) (h1 : side8 (s.data.toList.take k) false = some a) (h2 : side8 (s.data.toList.drop (k + 2)) true = none) : Calls Tryz.prog 5 #[.string s] w (SixPost none w) := by
  obtain ⟨hs1, hs2⟩ := sides_size s k hs
  have HCut := Lib.hid (fun w hv => pair_yes hc hs w hv)
  have ha8 := (side8_len h1).1
  obtain ⟨x0, x1, x2, x3, x4, x5, x6, x7, hp⟩ := eight_of8 (padN_len ha8)
  have HRd1 := Lib.hid (fun w hv => read_ok (s := btx (s.data.toList.take k)) h1 hp hs1 w hv)
  have HRd2 := Lib.hid (fun w hv => read_no (s := btx (s.data.toList.drop (k + 2))) h2 hs2 w hv)
  generalize btx (s.data.toList.take k) = p at hs1 HCut HRd1
  generalize btx (s.data.toList.drop (k + 2)) = q at hs2 HCut HRd2
  clear hc h1 h2 hp hs1 hs2
  have HR0 : Hid (RowU 24 (w.alloc (.cells #[.int .u16 0, .int .u16 0, .int .u16 0, .int .u16 0, .int .u16 0, .int .u16 0, .int .u16 0, .int .u16 0] 24)) w.heap.size zero8) := by
    show RowU _ _ _ _
    exact RowU.new 24 w zero8
  have HB0 : Hid (Below w.heap.size w (w.alloc (.cells #[.int .u16 0, .int .u16 0, .int .u16 0, .int .u16 0, .int .u16 0, .int .u16 0, .int .u16 0, .int .u16 0] 24))) := bel8 _ _
  have HV0 : Hid (V8 (w.alloc (.cells #[.int .u16 0, .int .u16 0, .int .u16 0, .int .u16 0, .int .u16 0, .int .u16 0, .int .u16 0, .int .u16 0] 24))) := hv.below (bel8 _ _)
  clear hv
  go_enter Tryz.func5, Tryz.ntmps5
  go_wp2_with (first
    | (go_at_call 10; (with_reducible refine (HCut.out _ HV0.out).mono ?_); rintro e w1 ⟨rfl, hb⟩; have HB1 := Lib.hid (bnx8 HB0.out hb); have HV1 := Lib.hid (HV0.out.below hb); have HR1 := Lib.hid (HR0.out.below hb); clear hb)
    | (go_at_call 11; (with_reducible refine (HRd2.out _ HV2b.out).mono ?_); rintro e w3 ⟨y0, y1, y2, y3, y4, y5, y6, y7, rfl, hb⟩; have HB3 := Lib.hid (bnx8 HB2b.out hb); have HR3 := Lib.hid (HR2b.out.below hb); have HA3 := Lib.hid (HA2.out.below hb); have HB3b := Lib.hid (bal8 HB3.out (.cells #[.int .u16 (y0 : Int), .int .u16 (y1 : Int), .int .u16 (y2 : Int), .int .u16 (y3 : Int), .int .u16 (y4 : Int), .int .u16 (y5 : Int), .int .u16 (y6 : Int), .int .u16 (y7 : Int)] 24)); have HR3b := Lib.hid (HR3.out.below (bel8 (.cells #[.int .u16 (y0 : Int), .int .u16 (y1 : Int), .int .u16 (y2 : Int), .int .u16 (y3 : Int), .int .u16 (y4 : Int), .int .u16 (y5 : Int), .int .u16 (y6 : Int), .int .u16 (y7 : Int)] 24) w3)); have HA3b := Lib.hid (HA3.out.below (bel8 (.cells #[.int .u16 (y0 : Int), .int .u16 (y1 : Int), .int .u16 (y2 : Int), .int .u16 (y3 : Int), .int .u16 (y4 : Int), .int .u16 (y5 : Int), .int .u16 (y6 : Int), .int .u16 (y7 : Int)] 24) w3)); have HC3 := Lib.hid (RowU.new 24 w3 [y0, y1, y2, y3, y4, y5, y6, y7]); clear hb)
    | (go_at_call 11; (with_reducible refine (HRd1.out _ HV1.out).mono ?_); rintro e w2 ⟨rfl, hb⟩; have HB2 := Lib.hid (bnx8 HB1.out hb); have HV2 := Lib.hid (HV1.out.below hb); have HR2 := Lib.hid (HR1.out.below hb); have HB2b := Lib.hid (bal8 HB2.out (.cells #[.int .u16 (x0 : Int), .int .u16 (x1 : Int), .int .u16 (x2 : Int), .int .u16 (x3 : Int), .int .u16 (x4 : Int), .int .u16 (x5 : Int), .int .u16 (x6 : Int), .int .u16 (x7 : Int)] 24)); have HV2b := Lib.hid (HV2.out.below (bel8 (.cells #[.int .u16 (x0 : Int), .int .u16 (x1 : Int), .int .u16 (x2 : Int), .int .u16 (x3 : Int), .int .u16 (x4 : Int), .int .u16 (x5 : Int), .int .u16 (x6 : Int), .int .u16 (x7 : Int)] 24) w2)); have HR2b := Lib.hid (HR2.out.below (bel8 (.cells #[.int .u16 (x0 : Int), .int .u16 (x1 : Int), .int .u16 (x2 : Int), .int .u16 (x3 : Int), .int .u16 (x4 : Int), .int .u16 (x5 : Int), .int .u16 (x6 : Int), .int .u16 (x7 : Int)] 24) w2)); have HA2 := Lib.hid (RowU.new 24 w2 [x0, x1, x2, x3, x4, x5, x6, x7]); clear hb)
    | (go_at_call 13; (with_reducible refine (wrap8_any 2 _).mono ?_); rintro e w5 ⟨cs, b, u', x', rfl, hbge, hch, hb⟩; have HCh := Lib.hid hch; have HBg := Lib.hid (ne8 HR3b.out.lt hbge); have HB5 := Lib.hid (bnx8 HB3b.out hb); have HR5 := Lib.hid (HR3b.out.below hb); obtain ⟨c0, c1, c2, c3, c4, c5, c6, c7, f0, f1, f2, f3, f4, f5, f6, f7⟩ := rows8 HR5.out; have hgl5 := HR5.out.lt; clear hb hch hbge))
  refine bodyPost_ret (parse_res (put8_rows HR5.out rfl 0 0 0 0 0 0 0 0) _ (.iface u' x') rfl rfl) rfl ?_
  exact ⟨cs, u', x', rfl, HCh.out _ (put8_other _ _ _ HBg.out _ _ _ _ _ _ _ _), below_put8 (Nat.le_refl _) HB5.out _ _ _ _ _ _ _ _⟩

set_option maxHeartbeats 4000000 in
set_option maxRecDepth 100000 in
theorem parse_e6 (s : ByteArray) (hs : s.size ≤ 10000) (w : World) (hv : V8 w) (k : Nat) (hc : colons8 s.data.toList = some k) (a b : List Nat) (h1 : side8 (s.data.toList.take k) false = some a) (h2 : side8 (s.data.toList.drop (k + 2)) true = some b) (hn : ¬ (a.length + b.length < 8)) : Calls Tryz.prog 5 #[.string s] w (SixPost none w) := by
  obtain ⟨hs1, hs2⟩ := sides_size s k hs
  have HCut := Lib.hid (fun w hv => pair_yes hc hs w hv)
  have ha8 := (side8_len h1).1
  have hb8 := (side8_len h2).1
  obtain ⟨x0, x1, x2, x3, x4, x5, x6, x7, hp⟩ := eight_of8 (padN_len ha8)
  obtain ⟨y0, y1, y2, y3, y4, y5, y6, y7, hq⟩ := eight_of8 (padN_len hb8)
  have HRd1 := Lib.hid (fun w hv => read_ok (s := btx (s.data.toList.take k)) h1 hp hs1 w hv)
  have HRd2 := Lib.hid (fun w hv => read_ok (s := btx (s.data.toList.drop (k + 2))) h2 hq hs2 w hv)
  generalize btx (s.data.toList.take k) = p at hs1 HCut HRd1
  generalize btx (s.data.toList.drop (k + 2)) = q at hs2 HCut HRd2
  have HFit : Hid (∀ w, Calls Tryz.prog 12 #[.int .i64 ((a.length : Int) + (b.length : Int)), .bool true] w fun e w' => e = .returned (.bool false) ∧ w = w') := fits_any (a.length + b.length) true false (by simp [hn])
  clear hc h1 h2 hp hq hs1 hs2
  have HR0 : Hid (RowU 24 (w.alloc (.cells #[.int .u16 0, .int .u16 0, .int .u16 0, .int .u16 0, .int .u16 0, .int .u16 0, .int .u16 0, .int .u16 0] 24)) w.heap.size zero8) := by
    show RowU _ _ _ _
    exact RowU.new 24 w zero8
  have HB0 : Hid (Below w.heap.size w (w.alloc (.cells #[.int .u16 0, .int .u16 0, .int .u16 0, .int .u16 0, .int .u16 0, .int .u16 0, .int .u16 0, .int .u16 0] 24))) := bel8 _ _
  have HV0 : Hid (V8 (w.alloc (.cells #[.int .u16 0, .int .u16 0, .int .u16 0, .int .u16 0, .int .u16 0, .int .u16 0, .int .u16 0, .int .u16 0] 24))) := hv.below (bel8 _ _)
  clear hv
  go_enter Tryz.func5, Tryz.ntmps5
  go_wp2_with (first
    | (go_at_call 10; (with_reducible refine (HCut.out _ HV0.out).mono ?_); rintro e w1 ⟨rfl, hb⟩; have HB1 := Lib.hid (bnx8 HB0.out hb); have HV1 := Lib.hid (HV0.out.below hb); have HR1 := Lib.hid (HR0.out.below hb); clear hb)
    | (go_at_call 11; (with_reducible refine (HRd2.out _ HV2b.out).mono ?_); rintro e w3 ⟨rfl, hb⟩; have HB3 := Lib.hid (bnx8 HB2b.out hb); have HR3 := Lib.hid (HR2b.out.below hb); have HA3 := Lib.hid (HA2.out.below hb); have HB3b := Lib.hid (bal8 HB3.out (.cells #[.int .u16 (y0 : Int), .int .u16 (y1 : Int), .int .u16 (y2 : Int), .int .u16 (y3 : Int), .int .u16 (y4 : Int), .int .u16 (y5 : Int), .int .u16 (y6 : Int), .int .u16 (y7 : Int)] 24)); have HR3b := Lib.hid (HR3.out.below (bel8 (.cells #[.int .u16 (y0 : Int), .int .u16 (y1 : Int), .int .u16 (y2 : Int), .int .u16 (y3 : Int), .int .u16 (y4 : Int), .int .u16 (y5 : Int), .int .u16 (y6 : Int), .int .u16 (y7 : Int)] 24) w3)); have HA3b := Lib.hid (HA3.out.below (bel8 (.cells #[.int .u16 (y0 : Int), .int .u16 (y1 : Int), .int .u16 (y2 : Int), .int .u16 (y3 : Int), .int .u16 (y4 : Int), .int .u16 (y5 : Int), .int .u16 (y6 : Int), .int .u16 (y7 : Int)] 24) w3)); have HC3 := Lib.hid (RowU.new 24 w3 [y0, y1, y2, y3, y4, y5, y6, y7]); clear hb)
    | (go_at_call 11; (with_reducible refine (HRd1.out _ HV1.out).mono ?_); rintro e w2 ⟨rfl, hb⟩; have HB2 := Lib.hid (bnx8 HB1.out hb); have HV2 := Lib.hid (HV1.out.below hb); have HR2 := Lib.hid (HR1.out.below hb); have HB2b := Lib.hid (bal8 HB2.out (.cells #[.int .u16 (x0 : Int), .int .u16 (x1 : Int), .int .u16 (x2 : Int), .int .u16 (x3 : Int), .int .u16 (x4 : Int), .int .u16 (x5 : Int), .int .u16 (x6 : Int), .int .u16 (x7 : Int)] 24)); have HV2b := Lib.hid (HV2.out.below (bel8 (.cells #[.int .u16 (x0 : Int), .int .u16 (x1 : Int), .int .u16 (x2 : Int), .int .u16 (x3 : Int), .int .u16 (x4 : Int), .int .u16 (x5 : Int), .int .u16 (x6 : Int), .int .u16 (x7 : Int)] 24) w2)); have HR2b := Lib.hid (HR2.out.below (bel8 (.cells #[.int .u16 (x0 : Int), .int .u16 (x1 : Int), .int .u16 (x2 : Int), .int .u16 (x3 : Int), .int .u16 (x4 : Int), .int .u16 (x5 : Int), .int .u16 (x6 : Int), .int .u16 (x7 : Int)] 24) w2)); have HA2 := Lib.hid (RowU.new 24 w2 [x0, x1, x2, x3, x4, x5, x6, x7]); clear hb)
    | (go_at_call 12; (with_reducible refine (HFit.out _).mono ?_); rintro e w9 ⟨rfl, rfl⟩)
    | (go_at_call 13; (with_reducible refine (wrap8_any 2 _).mono ?_); rintro e w5 ⟨cs, b, u', x', rfl, hbge, hch, hb⟩; have HCh := Lib.hid hch; have HBg := Lib.hid (ne8 HR3b.out.lt hbge); have HB5 := Lib.hid (bnx8 HB3b.out hb); have HR5 := Lib.hid (HR3b.out.below hb); obtain ⟨c0, c1, c2, c3, c4, c5, c6, c7, f0, f1, f2, f3, f4, f5, f6, f7⟩ := rows8 HR5.out; have hgl5 := HR5.out.lt; clear hb hch hbge))
  refine bodyPost_ret (parse_res (put8_rows HR5.out rfl 0 0 0 0 0 0 0 0) _ (.iface u' x') rfl rfl) rfl ?_
  exact ⟨cs, u', x', rfl, HCh.out _ (put8_other _ _ _ HBg.out _ _ _ _ _ _ _ _), below_put8 (Nat.le_refl _) HB5.out _ _ _ _ _ _ _ _⟩

end Go.Proofs.YtfodkkdggajjaaaGreatDoor

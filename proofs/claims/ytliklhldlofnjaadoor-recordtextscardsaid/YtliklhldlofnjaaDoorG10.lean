/-
  In this text, one behind the other: RecTextM, RecTextA, RecTextB, RecTextC, RecTextD, RecCon.
-/
import Derived.BigQuiet
import Derived.Deep.AppendLies
import Derived.Deep.Light
import Derived.Deep.LoopGhost
import Derived.Deep.QuietTactic
import Derived.Deep.RegionHeld3
import Derived.Deep.RegionWith
import Derived.IntWalk
import Derived.LaidEql
import Derived.Laws.AppendOwnNone
import Derived.Laws.BitsLemmas
import Derived.Laws.Cover4
import Derived.Laws.Rows
import Derived.Lib.Hide
import Derived.Maps.AppendAt
import Derived.RowKitTokens
import Derived.Stop.Asserts
import Derived.WalkKit
import Derived.WalkLawsBesides
import Derived.WalkSpells
import Derived.Test.YtliklhldlofnjaaDoorRows
import Derived.Test.YtliklhldlofnjaaDoorG9
/-
  The document's Text of layer 12, by its contract (written by mkrec.py).
-/
namespace Go.Proofs.YtliklhldlofnjaaDoor
open Go.RowKit

theorem cells12 {w : World} (x0 x1 x2 x3 x4 x5 x6 x7 x8 x9 x10 x11 x12 x13 x14 x15 x16 x17 x18 x19 x20 : Value) : ∀ wx, Below (w.alloc (.cells #[x0, x1, x2, x3, x4, x5, x6, x7, x8, x9, x10, x11, x12, x13, x14, x15, x16, x17, x18, x19, x20] 29)).heap.size (w.alloc (.cells #[x0, x1, x2, x3, x4, x5, x6, x7, x8, x9, x10, x11, x12, x13, x14, x15, x16, x17, x18, x19, x20] 29)) wx → Hid (wx.heap[w.heap.size]? = some (.cells #[x0, x1, x2, x3, x4, x5, x6, x7, x8, x9, x10, x11, x12, x13, x14, x15, x16, x17, x18, x19, x20] 29 (0, 0))) ∧ wx.cell? ⟨w.heap.size, 14, none⟩ = some x14 ∧ wx.cell? ⟨w.heap.size, 15, none⟩ = some x15 ∧ wx.cell? ⟨w.heap.size, 16, none⟩ = some x16 ∧ wx.cell? ⟨w.heap.size, 17, none⟩ = some x17 ∧ wx.cell? ⟨w.heap.size, 18, none⟩ = some x18 ∧ wx.cell? ⟨w.heap.size, 19, none⟩ = some x19 ∧ wx.cell? ⟨w.heap.size, 20, none⟩ = some x20 := by
  intro wx hb
  have h : wx.heap[w.heap.size]? = some (.cells #[x0, x1, x2, x3, x4, x5, x6, x7, x8, x9, x10, x11, x12, x13, x14, x15, x16, x17, x18, x19, x20] 29 (0, 0)) := (hb.block w.heap.size (by simp)).trans (heap_alloc_new w _)
  refine ⟨?_, ?_, ?_, ?_, ?_, ?_, ?_, ?_⟩
  · exact h
  all_goals simp [World.cell?, h]
theorem wpl12 {ops : Array Oper} {rest : List Oper} {op : Oper} {a : Act} {w : World} {Q : Exit → Act → World → Prop} {cs : Array Value} {g : Nat} (hgd : op.guard = none) (x : Operand) (ho : op.op = .load 29 x)
    (hc : w.heap[g]? = some (.cells cs 29 (0, 0))) (hs : cs.size = 21) (hx : a.eval x = .pointer (some ⟨g, 0, none⟩)) (h : wpList Tryd.prog ops Q rest (a.put op.dst (.agg cs)) w) : wpList Tryd.prog ops Q (op :: rest) a w :=
  wpList_load_row hgd 29 x ho g hx 29 cs (0, 0) _ hc Tryd.underlying29 rfl ((show (Tryd.prog.info? 29).map (·.size) = some 21 by kernel_rfl).trans (by rw [hs])) h
theorem htext12 {u : Url12} (hn : Nums12 u) {t : ByteArray} (ht : txt10 (textK u.kind u.name.data.toList u.v4 u.v6) = t) (w : World) :
    Calls Tryd.prog 20 #[.agg #[.int .i64 u.kind, .string u.name, .int .u32 (u.v4 : Int), .int .u16 (u.a0 : Int), .int .u16 (u.a1 : Int), .int .u16 (u.a2 : Int), .int .u16 (u.a3 : Int), .int .u16 (u.a4 : Int), .int .u16 (u.a5 : Int), .int .u16 (u.a6 : Int), .int .u16 (u.a7 : Int)]] w fun e w' => e = .returned (.string t) ∧ Below w.heap.size w w' := by
  have := refText9_any u.kind u.name u.v4 u.a0 u.a1 u.a2 u.a3 u.a4 u.a5 u.a6 u.a7 w hn.v4 hn.v6
  have e : btx (textK u.kind u.name.data.toList u.v4 [u.a0, u.a1, u.a2, u.a3, u.a4, u.a5, u.a6, u.a7]) = t := ht
  rw [e] at this
  exact this
theorem num12_at {p : Int} (h0 : 0 ≤ p) (h1 : p ≤ 9223372036854775807) {t : ByteArray} (ht : txt10 (dcm10 p.toNat) = t) (w : World) :
    Calls Tryd.prog 21 #[.int .i64 p] w fun e w' => e = .returned (.string t) ∧ Below w.heap.size w w' := by
  have := num_is12 ht (by omega) w
  rwa [Int.toNat_of_nonneg h0] at this
theorem path12_len {u : Url12} (h : Wee12 u) : (path12 u).length ≤ 60000 := by
  unfold path12
  have h1 := h.len
  split
  · cases hp : u.path with
    | nil => simp
    | cons p ps => have := h.segs p (by rw [hp]; exact List.mem_cons_self ..); simp; omega
  · have := txt11_len u.path (fun p hp => Nat.le_trans (h.segs p hp) (by omega))
    have h2 : 1001 * u.path.length ≤ 1001 * 50 := Nat.mul_le_mul_left _ h1
    omega
theorem app12 (a b : ByteArray) : (a ++ b).data.toList = a.data.toList ++ b.data.toList := by simp [ByteArray.data_append]
theorem str12 {a : ByteArray} {l : List UInt8} (h : a.data.toList = l) : a = txt10 l := by rw [← h]; rfl
theorem emp12 {s : ByteArray} (h : (s.toList == []) = true) : s = ⟨#[]⟩ := by
  rw [beq_iff_eq, ByteArray.toList_eq] at h
  exact ByteArray.ext (Array.toList_inj.1 h)
theorem ful12 {s : ByteArray} (h : (s.toList == []) = false) : s ≠ ⟨#[]⟩ := by
  rintro rfl
  rw [ByteArray.toList_eq] at h
  exact absurd h (by decide)
theorem emp_or (s : ByteArray) : ((s.toList == []) = true ∧ s = ⟨#[]⟩) ∨ ((s.toList == []) = false ∧ s ≠ ⟨#[]⟩) := by
  cases h : (s.toList == []) with
  | true => exact .inl ⟨rfl, emp12 h⟩
  | false => exact .inr ⟨rfl, ful12 h⟩
end Go.Proofs.YtliklhldlofnjaaDoor

/-
  The document's Text of layer 12, at a host, without a user (written by mkrec.py).
-/
namespace Go.Proofs.YtliklhldlofnjaaDoor
open Go.RowKit

set_option maxHeartbeats 8000000 in
set_option maxRecDepth 100000 in
theorem refText12_Any (u : Url12) (bare : Bool) (A : Option Addr) (n c : Nat) (hn : u.path.length = n) (w : World) (h : Segs w A u.path) (hw : Wee12 u) (hk : u.kind ≠ 0) (hu : (u.user.toList == []) = true) (hu2 : u.user = ⟨#[]⟩) (hp : (u.pass.toList == []) = true) (hp2 : u.pass = ⟨#[]⟩) (h0 : 0 ≤ u.port) :
    Calls Tryd.prog 11 #[.agg #[.string u.scheme, .string u.user, .string u.pass, .int .i64 u.kind, .string u.name, .int .u32 (u.v4 : Int), .int .u16 (u.a0 : Int), .int .u16 (u.a1 : Int), .int .u16 (u.a2 : Int), .int .u16 (u.a3 : Int), .int .u16 (u.a4 : Int), .int .u16 (u.a5 : Int), .int .u16 (u.a6 : Int), .int .u16 (u.a7 : Int), .int .i64 u.port, .bool u.opaq, .slice A n c, .bool u.hasQ, .string u.query, .bool u.hasF, .string u.frag], .bool bare] w (Txt12 (text12 u bare) w) := by
  obtain ⟨T, hT⟩ : ∃ T, txt10 (textK u.kind u.name.data.toList u.v4 u.v6) = T := ⟨_, rfl⟩
  obtain ⟨P, hP⟩ : ∃ P, txt10 (path12 u) = P := ⟨_, rfl⟩
  obtain ⟨N, hN⟩ : ∃ N, txt10 (dcm10 u.port.toNat) = N := ⟨_, rfl⟩
  obtain ⟨R, hR⟩ : ∃ R, text12 u bare = R := ⟨_, rfl⟩
  rw [hR]
  have HCs := Lib.hid (cells12 (w := w) (.string u.scheme) (.string u.user) (.string u.pass) (.int .i64 u.kind) (.string u.name) (.int .u32 (u.v4 : Int)) (.int .u16 (u.a0 : Int)) (.int .u16 (u.a1 : Int)) (.int .u16 (u.a2 : Int)) (.int .u16 (u.a3 : Int)) (.int .u16 (u.a4 : Int)) (.int .u16 (u.a5 : Int)) (.int .u16 (u.a6 : Int)) (.int .u16 (u.a7 : Int)) (.int .i64 u.port) (.bool u.opaq) (.slice A n c) (.bool u.hasQ) (.string u.query) (.bool u.hasF) (.string u.frag))
  have HT := Lib.hid (fun w => htext12 hw.nums hT w)
  have HN := Lib.hid (fun (h0 : 0 ≤ u.port) w => num12_at h0 hw.nums.p1 hN w)
  have HP : Hid (∀ wx, Below (w.alloc (.cells #[.string u.scheme, .string u.user, .string u.pass, .int .i64 u.kind, .string u.name, .int .u32 (u.v4 : Int), .int .u16 (u.a0 : Int), .int .u16 (u.a1 : Int), .int .u16 (u.a2 : Int), .int .u16 (u.a3 : Int), .int .u16 (u.a4 : Int), .int .u16 (u.a5 : Int), .int .u16 (u.a6 : Int), .int .u16 (u.a7 : Int), .int .i64 u.port, .bool u.opaq, .slice A n c, .bool u.hasQ, .string u.query, .bool u.hasF, .string u.frag] 29)).heap.size (w.alloc (.cells #[.string u.scheme, .string u.user, .string u.pass, .int .i64 u.kind, .string u.name, .int .u32 (u.v4 : Int), .int .u16 (u.a0 : Int), .int .u16 (u.a1 : Int), .int .u16 (u.a2 : Int), .int .u16 (u.a3 : Int), .int .u16 (u.a4 : Int), .int .u16 (u.a5 : Int), .int .u16 (u.a6 : Int), .int .u16 (u.a7 : Int), .int .i64 u.port, .bool u.opaq, .slice A n c, .bool u.hasQ, .string u.query, .bool u.hasF, .string u.frag] 29)) wx → Calls Tryd.prog 13 #[.agg #[.string u.scheme, .string u.user, .string u.pass, .int .i64 u.kind, .string u.name, .int .u32 (u.v4 : Int), .int .u16 (u.a0 : Int), .int .u16 (u.a1 : Int), .int .u16 (u.a2 : Int), .int .u16 (u.a3 : Int), .int .u16 (u.a4 : Int), .int .u16 (u.a5 : Int), .int .u16 (u.a6 : Int), .int .u16 (u.a7 : Int), .int .i64 u.port, .bool u.opaq, .slice A n c, .bool u.hasQ, .string u.query, .bool u.hasF, .string u.frag]] wx fun e w' => e = .returned (.string P) ∧ Below wx.heap.size wx w') := fun wx hb => by
    have := rpath_is hP A n c hn wx ((h.below (bel12 w _)).below hb) hw
    skip
    exact this
  have zT : T.size ≤ 200 := by rw [← hT, txt10_size]; exact textK_len (by have := hw.name; simpa using this) hw.nums.v4 rfl hw.nums.v6
  have zP : P.size ≤ 60000 := by rw [← hP, txt10_size]; exact path12_len hw
  have zN : N.size ≤ 19 := by rw [← hN, txt10_size]; exact dcm10_len 18 _ (by have := hw.nums.p1; omega)
  have z1 := hw.scheme; have z2 := hw.user; have z3 := hw.pass; have z5 := hw.query; have z6 := hw.frag
  have lT : T.data.toList = textK u.kind u.name.data.toList u.v4 u.v6 := by rw [← hT]; rfl
  have lP : P.data.toList = path12 u := by rw [← hP]; rfl
  have lN : N.data.toList = dcm10 u.port.toNat := by rw [← hN]; rfl
  have HR : Hid (R = u.scheme.data.toList ++ 58 :: (front12 u ++ (P.data.toList ++ (query12 u ++ frag12 u bare)))) := by show R = _; rw [← hR, lP]; rfl
  have e1 : (u.kind == 0) = false := beq_eq_false_iff_ne.2 hk
  have HF2 : front12 u = 47 :: 47 :: (cred12 u ++ (T.data.toList ++ port12 u)) := by (unfold front12; rw [if_pos hk, lT])
  unfold cred12 port12 at HF2
  simp only [hu2, hp2, h0, lN.symm, if_true, if_false, true_and, and_true, false_and, and_false, and_self] at HF2
  have HF := Lib.hid HF2
  have HU2 := Lib.hid hu2
  have HP2 := Lib.hid hp2
  clear HF2 hu2 hp2
  have HNm := Lib.hid (HN.out h0)
  clear HN
  clear hT hP hN hR lT lP lN
  go_enter Tryd.func11, Tryd.ntmps11
  go_wp2_with (first
    | ((with_reducible refine wpl12 rfl (.tmp 2) rfl s0.out ?hs ?hx ?_); (case hs => rfl); (case hx => rfl))
    | (go_at_call 20; (with_reducible refine (HT.out _).mono ?_); rintro e w1 ⟨rfl, hb⟩; have HB := Lib.hid (Below.refl w.heap.size w |>.trans (bel12 _ _ |>.trans (hb.mono (bel12 _ _).size))); (obtain ⟨s0, s14, s15, s16, s17, s18, s19, s20⟩ := HCs.out _ hb); have HBc := Lib.hid hb; clear hb)
    | (go_at_call 21; (with_reducible refine (HNm.out _).mono ?_); rintro e w2 ⟨rfl, hb⟩; have HBc := Lib.hid (bn12 HBc.out hb); clear s0 s14 s15 s16 s17 s18 s19 s20; (obtain ⟨s0, s14, s15, s16, s17, s18, s19, s20⟩ := HCs.out _ HBc.out); clear hb)
    | (go_at_call 13; (with_reducible refine (HP.out _ (by first | exact HBc.out | exact Below.refl _ _)).mono ?_); rintro e w3 ⟨rfl, hb⟩; (first | have HBc := Lib.hid (bn12 HBc.out hb) | have HBc := Lib.hid hb); (try clear s0 s14 s15 s16 s17 s18 s19 s20); (obtain ⟨s0, s14, s15, s16, s17, s18, s19, s20⟩ := HCs.out _ HBc.out); clear hb))
  all_goals
    go_ret
    refine ⟨?_, bn12 (bel12 _ _) HBc.out⟩
    rw [HR.out]
    refine congrArg (fun s => Ending.returned (.string s)) (str12 ?_)
    simp only [app12, HF.out, query12, frag12, *]
    simp [HU2.out, HP2.out]

set_option maxHeartbeats 8000000 in
set_option maxRecDepth 100000 in
theorem refText12_Ann (u : Url12) (bare : Bool) (A : Option Addr) (n c : Nat) (hn : u.path.length = n) (w : World) (h : Segs w A u.path) (hw : Wee12 u) (hk : u.kind ≠ 0) (hu : (u.user.toList == []) = true) (hu2 : u.user = ⟨#[]⟩) (hp : (u.pass.toList == []) = true) (hp2 : u.pass = ⟨#[]⟩) (h0 : ¬ 0 ≤ u.port) :
    Calls Tryd.prog 11 #[.agg #[.string u.scheme, .string u.user, .string u.pass, .int .i64 u.kind, .string u.name, .int .u32 (u.v4 : Int), .int .u16 (u.a0 : Int), .int .u16 (u.a1 : Int), .int .u16 (u.a2 : Int), .int .u16 (u.a3 : Int), .int .u16 (u.a4 : Int), .int .u16 (u.a5 : Int), .int .u16 (u.a6 : Int), .int .u16 (u.a7 : Int), .int .i64 u.port, .bool u.opaq, .slice A n c, .bool u.hasQ, .string u.query, .bool u.hasF, .string u.frag], .bool bare] w (Txt12 (text12 u bare) w) := by
  obtain ⟨T, hT⟩ : ∃ T, txt10 (textK u.kind u.name.data.toList u.v4 u.v6) = T := ⟨_, rfl⟩
  obtain ⟨P, hP⟩ : ∃ P, txt10 (path12 u) = P := ⟨_, rfl⟩
  obtain ⟨N, hN⟩ : ∃ N, txt10 (dcm10 u.port.toNat) = N := ⟨_, rfl⟩
  obtain ⟨R, hR⟩ : ∃ R, text12 u bare = R := ⟨_, rfl⟩
  rw [hR]
  have HCs := Lib.hid (cells12 (w := w) (.string u.scheme) (.string u.user) (.string u.pass) (.int .i64 u.kind) (.string u.name) (.int .u32 (u.v4 : Int)) (.int .u16 (u.a0 : Int)) (.int .u16 (u.a1 : Int)) (.int .u16 (u.a2 : Int)) (.int .u16 (u.a3 : Int)) (.int .u16 (u.a4 : Int)) (.int .u16 (u.a5 : Int)) (.int .u16 (u.a6 : Int)) (.int .u16 (u.a7 : Int)) (.int .i64 u.port) (.bool u.opaq) (.slice A n c) (.bool u.hasQ) (.string u.query) (.bool u.hasF) (.string u.frag))
  have HT := Lib.hid (fun w => htext12 hw.nums hT w)
  have HN := Lib.hid (fun (h0 : 0 ≤ u.port) w => num12_at h0 hw.nums.p1 hN w)
  have HP : Hid (∀ wx, Below (w.alloc (.cells #[.string u.scheme, .string u.user, .string u.pass, .int .i64 u.kind, .string u.name, .int .u32 (u.v4 : Int), .int .u16 (u.a0 : Int), .int .u16 (u.a1 : Int), .int .u16 (u.a2 : Int), .int .u16 (u.a3 : Int), .int .u16 (u.a4 : Int), .int .u16 (u.a5 : Int), .int .u16 (u.a6 : Int), .int .u16 (u.a7 : Int), .int .i64 u.port, .bool u.opaq, .slice A n c, .bool u.hasQ, .string u.query, .bool u.hasF, .string u.frag] 29)).heap.size (w.alloc (.cells #[.string u.scheme, .string u.user, .string u.pass, .int .i64 u.kind, .string u.name, .int .u32 (u.v4 : Int), .int .u16 (u.a0 : Int), .int .u16 (u.a1 : Int), .int .u16 (u.a2 : Int), .int .u16 (u.a3 : Int), .int .u16 (u.a4 : Int), .int .u16 (u.a5 : Int), .int .u16 (u.a6 : Int), .int .u16 (u.a7 : Int), .int .i64 u.port, .bool u.opaq, .slice A n c, .bool u.hasQ, .string u.query, .bool u.hasF, .string u.frag] 29)) wx → Calls Tryd.prog 13 #[.agg #[.string u.scheme, .string u.user, .string u.pass, .int .i64 u.kind, .string u.name, .int .u32 (u.v4 : Int), .int .u16 (u.a0 : Int), .int .u16 (u.a1 : Int), .int .u16 (u.a2 : Int), .int .u16 (u.a3 : Int), .int .u16 (u.a4 : Int), .int .u16 (u.a5 : Int), .int .u16 (u.a6 : Int), .int .u16 (u.a7 : Int), .int .i64 u.port, .bool u.opaq, .slice A n c, .bool u.hasQ, .string u.query, .bool u.hasF, .string u.frag]] wx fun e w' => e = .returned (.string P) ∧ Below wx.heap.size wx w') := fun wx hb => by
    have := rpath_is hP A n c hn wx ((h.below (bel12 w _)).below hb) hw
    skip
    exact this
  have zT : T.size ≤ 200 := by rw [← hT, txt10_size]; exact textK_len (by have := hw.name; simpa using this) hw.nums.v4 rfl hw.nums.v6
  have zP : P.size ≤ 60000 := by rw [← hP, txt10_size]; exact path12_len hw
  have zN : N.size ≤ 19 := by rw [← hN, txt10_size]; exact dcm10_len 18 _ (by have := hw.nums.p1; omega)
  have z1 := hw.scheme; have z2 := hw.user; have z3 := hw.pass; have z5 := hw.query; have z6 := hw.frag
  have lT : T.data.toList = textK u.kind u.name.data.toList u.v4 u.v6 := by rw [← hT]; rfl
  have lP : P.data.toList = path12 u := by rw [← hP]; rfl
  have lN : N.data.toList = dcm10 u.port.toNat := by rw [← hN]; rfl
  have HR : Hid (R = u.scheme.data.toList ++ 58 :: (front12 u ++ (P.data.toList ++ (query12 u ++ frag12 u bare)))) := by show R = _; rw [← hR, lP]; rfl
  have e1 : (u.kind == 0) = false := beq_eq_false_iff_ne.2 hk
  have HF2 : front12 u = 47 :: 47 :: (cred12 u ++ (T.data.toList ++ port12 u)) := by (unfold front12; rw [if_pos hk, lT])
  unfold cred12 port12 at HF2
  simp only [hu2, hp2, h0, lN.symm, if_true, if_false, true_and, and_true, false_and, and_false, and_self] at HF2
  have HF := Lib.hid HF2
  have HU2 := Lib.hid hu2
  have HP2 := Lib.hid hp2
  clear HF2 hu2 hp2
  clear HN
  clear hT hP hN hR lT lP lN
  go_enter Tryd.func11, Tryd.ntmps11
  go_wp2_with (first
    | ((with_reducible refine wpl12 rfl (.tmp 2) rfl s0.out ?hs ?hx ?_); (case hs => rfl); (case hx => rfl))
    | (go_at_call 20; (with_reducible refine (HT.out _).mono ?_); rintro e w1 ⟨rfl, hb⟩; have HB := Lib.hid (Below.refl w.heap.size w |>.trans (bel12 _ _ |>.trans (hb.mono (bel12 _ _).size))); (obtain ⟨s0, s14, s15, s16, s17, s18, s19, s20⟩ := HCs.out _ hb); have HBc := Lib.hid hb; clear hb)
    | (go_at_call 21; (with_reducible refine (HNm.out _).mono ?_); rintro e w2 ⟨rfl, hb⟩; have HBc := Lib.hid (bn12 HBc.out hb); clear s0 s14 s15 s16 s17 s18 s19 s20; (obtain ⟨s0, s14, s15, s16, s17, s18, s19, s20⟩ := HCs.out _ HBc.out); clear hb)
    | (go_at_call 13; (with_reducible refine (HP.out _ (by first | exact HBc.out | exact Below.refl _ _)).mono ?_); rintro e w3 ⟨rfl, hb⟩; (first | have HBc := Lib.hid (bn12 HBc.out hb) | have HBc := Lib.hid hb); (try clear s0 s14 s15 s16 s17 s18 s19 s20); (obtain ⟨s0, s14, s15, s16, s17, s18, s19, s20⟩ := HCs.out _ HBc.out); clear hb))
  all_goals
    go_ret
    refine ⟨?_, bn12 (bel12 _ _) HBc.out⟩
    rw [HR.out]
    refine congrArg (fun s => Ending.returned (.string s)) (str12 ?_)
    simp only [app12, HF.out, query12, frag12, *]
    simp [HU2.out, HP2.out]

set_option maxHeartbeats 8000000 in
set_option maxRecDepth 100000 in
theorem refText12_Ayy (u : Url12) (bare : Bool) (A : Option Addr) (n c : Nat) (hn : u.path.length = n) (w : World) (h : Segs w A u.path) (hw : Wee12 u) (hk : u.kind ≠ 0) (hu : (u.user.toList == []) = true) (hu2 : u.user = ⟨#[]⟩) (hp : (u.pass.toList == []) = false) (hp2 : u.pass ≠ ⟨#[]⟩) (h0 : 0 ≤ u.port) :
    Calls Tryd.prog 11 #[.agg #[.string u.scheme, .string u.user, .string u.pass, .int .i64 u.kind, .string u.name, .int .u32 (u.v4 : Int), .int .u16 (u.a0 : Int), .int .u16 (u.a1 : Int), .int .u16 (u.a2 : Int), .int .u16 (u.a3 : Int), .int .u16 (u.a4 : Int), .int .u16 (u.a5 : Int), .int .u16 (u.a6 : Int), .int .u16 (u.a7 : Int), .int .i64 u.port, .bool u.opaq, .slice A n c, .bool u.hasQ, .string u.query, .bool u.hasF, .string u.frag], .bool bare] w (Txt12 (text12 u bare) w) := by
  obtain ⟨T, hT⟩ : ∃ T, txt10 (textK u.kind u.name.data.toList u.v4 u.v6) = T := ⟨_, rfl⟩
  obtain ⟨P, hP⟩ : ∃ P, txt10 (path12 u) = P := ⟨_, rfl⟩
  obtain ⟨N, hN⟩ : ∃ N, txt10 (dcm10 u.port.toNat) = N := ⟨_, rfl⟩
  obtain ⟨R, hR⟩ : ∃ R, text12 u bare = R := ⟨_, rfl⟩
  rw [hR]
  have HCs := Lib.hid (cells12 (w := w) (.string u.scheme) (.string u.user) (.string u.pass) (.int .i64 u.kind) (.string u.name) (.int .u32 (u.v4 : Int)) (.int .u16 (u.a0 : Int)) (.int .u16 (u.a1 : Int)) (.int .u16 (u.a2 : Int)) (.int .u16 (u.a3 : Int)) (.int .u16 (u.a4 : Int)) (.int .u16 (u.a5 : Int)) (.int .u16 (u.a6 : Int)) (.int .u16 (u.a7 : Int)) (.int .i64 u.port) (.bool u.opaq) (.slice A n c) (.bool u.hasQ) (.string u.query) (.bool u.hasF) (.string u.frag))
  have HT := Lib.hid (fun w => htext12 hw.nums hT w)
  have HN := Lib.hid (fun (h0 : 0 ≤ u.port) w => num12_at h0 hw.nums.p1 hN w)
  have HP : Hid (∀ wx, Below (w.alloc (.cells #[.string u.scheme, .string u.user, .string u.pass, .int .i64 u.kind, .string u.name, .int .u32 (u.v4 : Int), .int .u16 (u.a0 : Int), .int .u16 (u.a1 : Int), .int .u16 (u.a2 : Int), .int .u16 (u.a3 : Int), .int .u16 (u.a4 : Int), .int .u16 (u.a5 : Int), .int .u16 (u.a6 : Int), .int .u16 (u.a7 : Int), .int .i64 u.port, .bool u.opaq, .slice A n c, .bool u.hasQ, .string u.query, .bool u.hasF, .string u.frag] 29)).heap.size (w.alloc (.cells #[.string u.scheme, .string u.user, .string u.pass, .int .i64 u.kind, .string u.name, .int .u32 (u.v4 : Int), .int .u16 (u.a0 : Int), .int .u16 (u.a1 : Int), .int .u16 (u.a2 : Int), .int .u16 (u.a3 : Int), .int .u16 (u.a4 : Int), .int .u16 (u.a5 : Int), .int .u16 (u.a6 : Int), .int .u16 (u.a7 : Int), .int .i64 u.port, .bool u.opaq, .slice A n c, .bool u.hasQ, .string u.query, .bool u.hasF, .string u.frag] 29)) wx → Calls Tryd.prog 13 #[.agg #[.string u.scheme, .string u.user, .string u.pass, .int .i64 u.kind, .string u.name, .int .u32 (u.v4 : Int), .int .u16 (u.a0 : Int), .int .u16 (u.a1 : Int), .int .u16 (u.a2 : Int), .int .u16 (u.a3 : Int), .int .u16 (u.a4 : Int), .int .u16 (u.a5 : Int), .int .u16 (u.a6 : Int), .int .u16 (u.a7 : Int), .int .i64 u.port, .bool u.opaq, .slice A n c, .bool u.hasQ, .string u.query, .bool u.hasF, .string u.frag]] wx fun e w' => e = .returned (.string P) ∧ Below wx.heap.size wx w') := fun wx hb => by
    have := rpath_is hP A n c hn wx ((h.below (bel12 w _)).below hb) hw
    skip
    exact this
  have zT : T.size ≤ 200 := by rw [← hT, txt10_size]; exact textK_len (by have := hw.name; simpa using this) hw.nums.v4 rfl hw.nums.v6
  have zP : P.size ≤ 60000 := by rw [← hP, txt10_size]; exact path12_len hw
  have zN : N.size ≤ 19 := by rw [← hN, txt10_size]; exact dcm10_len 18 _ (by have := hw.nums.p1; omega)
  have z1 := hw.scheme; have z2 := hw.user; have z3 := hw.pass; have z5 := hw.query; have z6 := hw.frag
  have lT : T.data.toList = textK u.kind u.name.data.toList u.v4 u.v6 := by rw [← hT]; rfl
  have lP : P.data.toList = path12 u := by rw [← hP]; rfl
  have lN : N.data.toList = dcm10 u.port.toNat := by rw [← hN]; rfl
  have HR : Hid (R = u.scheme.data.toList ++ 58 :: (front12 u ++ (P.data.toList ++ (query12 u ++ frag12 u bare)))) := by show R = _; rw [← hR, lP]; rfl
  have e1 : (u.kind == 0) = false := beq_eq_false_iff_ne.2 hk
  have HF2 : front12 u = 47 :: 47 :: (cred12 u ++ (T.data.toList ++ port12 u)) := by (unfold front12; rw [if_pos hk, lT])
  unfold cred12 port12 at HF2
  simp only [hu2, hp2, h0, lN.symm, if_true, if_false, true_and, and_true, false_and, and_false, and_self] at HF2
  have HF := Lib.hid HF2
  have HU2 := Lib.hid hu2
  have HP2 := Lib.hid hp2
  clear HF2 hu2 hp2
  have HNm := Lib.hid (HN.out h0)
  clear HN
  clear hT hP hN hR lT lP lN
  go_enter Tryd.func11, Tryd.ntmps11
  go_wp2_with (first
    | ((with_reducible refine wpl12 rfl (.tmp 2) rfl s0.out ?hs ?hx ?_); (case hs => rfl); (case hx => rfl))
    | (go_at_call 20; (with_reducible refine (HT.out _).mono ?_); rintro e w1 ⟨rfl, hb⟩; have HB := Lib.hid (Below.refl w.heap.size w |>.trans (bel12 _ _ |>.trans (hb.mono (bel12 _ _).size))); (obtain ⟨s0, s14, s15, s16, s17, s18, s19, s20⟩ := HCs.out _ hb); have HBc := Lib.hid hb; clear hb)
    | (go_at_call 21; (with_reducible refine (HNm.out _).mono ?_); rintro e w2 ⟨rfl, hb⟩; have HBc := Lib.hid (bn12 HBc.out hb); clear s0 s14 s15 s16 s17 s18 s19 s20; (obtain ⟨s0, s14, s15, s16, s17, s18, s19, s20⟩ := HCs.out _ HBc.out); clear hb)
    | (go_at_call 13; (with_reducible refine (HP.out _ (by first | exact HBc.out | exact Below.refl _ _)).mono ?_); rintro e w3 ⟨rfl, hb⟩; (first | have HBc := Lib.hid (bn12 HBc.out hb) | have HBc := Lib.hid hb); (try clear s0 s14 s15 s16 s17 s18 s19 s20); (obtain ⟨s0, s14, s15, s16, s17, s18, s19, s20⟩ := HCs.out _ HBc.out); clear hb))
  all_goals
    go_ret
    refine ⟨?_, bn12 (bel12 _ _) HBc.out⟩
    rw [HR.out]
    refine congrArg (fun s => Ending.returned (.string s)) (str12 ?_)
    simp only [app12, HF.out, query12, frag12, *]
    simp [HU2.out, HP2.out]

set_option maxHeartbeats 8000000 in
set_option maxRecDepth 100000 in
theorem refText12_Ayn (u : Url12) (bare : Bool) (A : Option Addr) (n c : Nat) (hn : u.path.length = n) (w : World) (h : Segs w A u.path) (hw : Wee12 u) (hk : u.kind ≠ 0) (hu : (u.user.toList == []) = true) (hu2 : u.user = ⟨#[]⟩) (hp : (u.pass.toList == []) = false) (hp2 : u.pass ≠ ⟨#[]⟩) (h0 : ¬ 0 ≤ u.port) :
    Calls Tryd.prog 11 #[.agg #[.string u.scheme, .string u.user, .string u.pass, .int .i64 u.kind, .string u.name, .int .u32 (u.v4 : Int), .int .u16 (u.a0 : Int), .int .u16 (u.a1 : Int), .int .u16 (u.a2 : Int), .int .u16 (u.a3 : Int), .int .u16 (u.a4 : Int), .int .u16 (u.a5 : Int), .int .u16 (u.a6 : Int), .int .u16 (u.a7 : Int), .int .i64 u.port, .bool u.opaq, .slice A n c, .bool u.hasQ, .string u.query, .bool u.hasF, .string u.frag], .bool bare] w (Txt12 (text12 u bare) w) := by
  obtain ⟨T, hT⟩ : ∃ T, txt10 (textK u.kind u.name.data.toList u.v4 u.v6) = T := ⟨_, rfl⟩
  obtain ⟨P, hP⟩ : ∃ P, txt10 (path12 u) = P := ⟨_, rfl⟩
  obtain ⟨N, hN⟩ : ∃ N, txt10 (dcm10 u.port.toNat) = N := ⟨_, rfl⟩
  obtain ⟨R, hR⟩ : ∃ R, text12 u bare = R := ⟨_, rfl⟩
  rw [hR]
  have HCs := Lib.hid (cells12 (w := w) (.string u.scheme) (.string u.user) (.string u.pass) (.int .i64 u.kind) (.string u.name) (.int .u32 (u.v4 : Int)) (.int .u16 (u.a0 : Int)) (.int .u16 (u.a1 : Int)) (.int .u16 (u.a2 : Int)) (.int .u16 (u.a3 : Int)) (.int .u16 (u.a4 : Int)) (.int .u16 (u.a5 : Int)) (.int .u16 (u.a6 : Int)) (.int .u16 (u.a7 : Int)) (.int .i64 u.port) (.bool u.opaq) (.slice A n c) (.bool u.hasQ) (.string u.query) (.bool u.hasF) (.string u.frag))
  have HT := Lib.hid (fun w => htext12 hw.nums hT w)
  have HN := Lib.hid (fun (h0 : 0 ≤ u.port) w => num12_at h0 hw.nums.p1 hN w)
  have HP : Hid (∀ wx, Below (w.alloc (.cells #[.string u.scheme, .string u.user, .string u.pass, .int .i64 u.kind, .string u.name, .int .u32 (u.v4 : Int), .int .u16 (u.a0 : Int), .int .u16 (u.a1 : Int), .int .u16 (u.a2 : Int), .int .u16 (u.a3 : Int), .int .u16 (u.a4 : Int), .int .u16 (u.a5 : Int), .int .u16 (u.a6 : Int), .int .u16 (u.a7 : Int), .int .i64 u.port, .bool u.opaq, .slice A n c, .bool u.hasQ, .string u.query, .bool u.hasF, .string u.frag] 29)).heap.size (w.alloc (.cells #[.string u.scheme, .string u.user, .string u.pass, .int .i64 u.kind, .string u.name, .int .u32 (u.v4 : Int), .int .u16 (u.a0 : Int), .int .u16 (u.a1 : Int), .int .u16 (u.a2 : Int), .int .u16 (u.a3 : Int), .int .u16 (u.a4 : Int), .int .u16 (u.a5 : Int), .int .u16 (u.a6 : Int), .int .u16 (u.a7 : Int), .int .i64 u.port, .bool u.opaq, .slice A n c, .bool u.hasQ, .string u.query, .bool u.hasF, .string u.frag] 29)) wx → Calls Tryd.prog 13 #[.agg #[.string u.scheme, .string u.user, .string u.pass, .int .i64 u.kind, .string u.name, .int .u32 (u.v4 : Int), .int .u16 (u.a0 : Int), .int .u16 (u.a1 : Int), .int .u16 (u.a2 : Int), .int .u16 (u.a3 : Int), .int .u16 (u.a4 : Int), .int .u16 (u.a5 : Int), .int .u16 (u.a6 : Int), .int .u16 (u.a7 : Int), .int .i64 u.port, .bool u.opaq, .slice A n c, .bool u.hasQ, .string u.query, .bool u.hasF, .string u.frag]] wx fun e w' => e = .returned (.string P) ∧ Below wx.heap.size wx w') := fun wx hb => by
    have := rpath_is hP A n c hn wx ((h.below (bel12 w _)).below hb) hw
    skip
    exact this
  have zT : T.size ≤ 200 := by rw [← hT, txt10_size]; exact textK_len (by have := hw.name; simpa using this) hw.nums.v4 rfl hw.nums.v6
  have zP : P.size ≤ 60000 := by rw [← hP, txt10_size]; exact path12_len hw
  have zN : N.size ≤ 19 := by rw [← hN, txt10_size]; exact dcm10_len 18 _ (by have := hw.nums.p1; omega)
  have z1 := hw.scheme; have z2 := hw.user; have z3 := hw.pass; have z5 := hw.query; have z6 := hw.frag
  have lT : T.data.toList = textK u.kind u.name.data.toList u.v4 u.v6 := by rw [← hT]; rfl
  have lP : P.data.toList = path12 u := by rw [← hP]; rfl
  have lN : N.data.toList = dcm10 u.port.toNat := by rw [← hN]; rfl
  have HR : Hid (R = u.scheme.data.toList ++ 58 :: (front12 u ++ (P.data.toList ++ (query12 u ++ frag12 u bare)))) := by show R = _; rw [← hR, lP]; rfl
  have e1 : (u.kind == 0) = false := beq_eq_false_iff_ne.2 hk
  have HF2 : front12 u = 47 :: 47 :: (cred12 u ++ (T.data.toList ++ port12 u)) := by (unfold front12; rw [if_pos hk, lT])
  unfold cred12 port12 at HF2
  simp only [hu2, hp2, h0, lN.symm, if_true, if_false, true_and, and_true, false_and, and_false, and_self] at HF2
  have HF := Lib.hid HF2
  have HU2 := Lib.hid hu2
  have HP2 := Lib.hid hp2
  clear HF2 hu2 hp2
  clear HN
  clear hT hP hN hR lT lP lN
  go_enter Tryd.func11, Tryd.ntmps11
  go_wp2_with (first
    | ((with_reducible refine wpl12 rfl (.tmp 2) rfl s0.out ?hs ?hx ?_); (case hs => rfl); (case hx => rfl))
    | (go_at_call 20; (with_reducible refine (HT.out _).mono ?_); rintro e w1 ⟨rfl, hb⟩; have HB := Lib.hid (Below.refl w.heap.size w |>.trans (bel12 _ _ |>.trans (hb.mono (bel12 _ _).size))); (obtain ⟨s0, s14, s15, s16, s17, s18, s19, s20⟩ := HCs.out _ hb); have HBc := Lib.hid hb; clear hb)
    | (go_at_call 21; (with_reducible refine (HNm.out _).mono ?_); rintro e w2 ⟨rfl, hb⟩; have HBc := Lib.hid (bn12 HBc.out hb); clear s0 s14 s15 s16 s17 s18 s19 s20; (obtain ⟨s0, s14, s15, s16, s17, s18, s19, s20⟩ := HCs.out _ HBc.out); clear hb)
    | (go_at_call 13; (with_reducible refine (HP.out _ (by first | exact HBc.out | exact Below.refl _ _)).mono ?_); rintro e w3 ⟨rfl, hb⟩; (first | have HBc := Lib.hid (bn12 HBc.out hb) | have HBc := Lib.hid hb); (try clear s0 s14 s15 s16 s17 s18 s19 s20); (obtain ⟨s0, s14, s15, s16, s17, s18, s19, s20⟩ := HCs.out _ HBc.out); clear hb))
  all_goals
    go_ret
    refine ⟨?_, bn12 (bel12 _ _) HBc.out⟩
    rw [HR.out]
    refine congrArg (fun s => Ending.returned (.string s)) (str12 ?_)
    simp only [app12, HF.out, query12, frag12, *]
    simp [HU2.out, HP2.out]
end Go.Proofs.YtliklhldlofnjaaDoor

/-
  The document's Text of layer 12, at a host, with a user (written by mkrec.py).
-/
namespace Go.Proofs.YtliklhldlofnjaaDoor
open Go.RowKit

set_option maxHeartbeats 8000000 in
set_option maxRecDepth 100000 in
theorem refText12_Bny (u : Url12) (bare : Bool) (A : Option Addr) (n c : Nat) (hn : u.path.length = n) (w : World) (h : Segs w A u.path) (hw : Wee12 u) (hk : u.kind ≠ 0) (hu : (u.user.toList == []) = false) (hu2 : u.user ≠ ⟨#[]⟩) (hp : (u.pass.toList == []) = true) (hp2 : u.pass = ⟨#[]⟩) (h0 : 0 ≤ u.port) :
    Calls Tryd.prog 11 #[.agg #[.string u.scheme, .string u.user, .string u.pass, .int .i64 u.kind, .string u.name, .int .u32 (u.v4 : Int), .int .u16 (u.a0 : Int), .int .u16 (u.a1 : Int), .int .u16 (u.a2 : Int), .int .u16 (u.a3 : Int), .int .u16 (u.a4 : Int), .int .u16 (u.a5 : Int), .int .u16 (u.a6 : Int), .int .u16 (u.a7 : Int), .int .i64 u.port, .bool u.opaq, .slice A n c, .bool u.hasQ, .string u.query, .bool u.hasF, .string u.frag], .bool bare] w (Txt12 (text12 u bare) w) := by
  obtain ⟨T, hT⟩ : ∃ T, txt10 (textK u.kind u.name.data.toList u.v4 u.v6) = T := ⟨_, rfl⟩
  obtain ⟨P, hP⟩ : ∃ P, txt10 (path12 u) = P := ⟨_, rfl⟩
  obtain ⟨N, hN⟩ : ∃ N, txt10 (dcm10 u.port.toNat) = N := ⟨_, rfl⟩
  obtain ⟨R, hR⟩ : ∃ R, text12 u bare = R := ⟨_, rfl⟩
  rw [hR]
  have HCs := Lib.hid (cells12 (w := w) (.string u.scheme) (.string u.user) (.string u.pass) (.int .i64 u.kind) (.string u.name) (.int .u32 (u.v4 : Int)) (.int .u16 (u.a0 : Int)) (.int .u16 (u.a1 : Int)) (.int .u16 (u.a2 : Int)) (.int .u16 (u.a3 : Int)) (.int .u16 (u.a4 : Int)) (.int .u16 (u.a5 : Int)) (.int .u16 (u.a6 : Int)) (.int .u16 (u.a7 : Int)) (.int .i64 u.port) (.bool u.opaq) (.slice A n c) (.bool u.hasQ) (.string u.query) (.bool u.hasF) (.string u.frag))
  have HT := Lib.hid (fun w => htext12 hw.nums hT w)
  have HN := Lib.hid (fun (h0 : 0 ≤ u.port) w => num12_at h0 hw.nums.p1 hN w)
  have HP : Hid (∀ wx, Below (w.alloc (.cells #[.string u.scheme, .string u.user, .string u.pass, .int .i64 u.kind, .string u.name, .int .u32 (u.v4 : Int), .int .u16 (u.a0 : Int), .int .u16 (u.a1 : Int), .int .u16 (u.a2 : Int), .int .u16 (u.a3 : Int), .int .u16 (u.a4 : Int), .int .u16 (u.a5 : Int), .int .u16 (u.a6 : Int), .int .u16 (u.a7 : Int), .int .i64 u.port, .bool u.opaq, .slice A n c, .bool u.hasQ, .string u.query, .bool u.hasF, .string u.frag] 29)).heap.size (w.alloc (.cells #[.string u.scheme, .string u.user, .string u.pass, .int .i64 u.kind, .string u.name, .int .u32 (u.v4 : Int), .int .u16 (u.a0 : Int), .int .u16 (u.a1 : Int), .int .u16 (u.a2 : Int), .int .u16 (u.a3 : Int), .int .u16 (u.a4 : Int), .int .u16 (u.a5 : Int), .int .u16 (u.a6 : Int), .int .u16 (u.a7 : Int), .int .i64 u.port, .bool u.opaq, .slice A n c, .bool u.hasQ, .string u.query, .bool u.hasF, .string u.frag] 29)) wx → Calls Tryd.prog 13 #[.agg #[.string u.scheme, .string u.user, .string u.pass, .int .i64 u.kind, .string u.name, .int .u32 (u.v4 : Int), .int .u16 (u.a0 : Int), .int .u16 (u.a1 : Int), .int .u16 (u.a2 : Int), .int .u16 (u.a3 : Int), .int .u16 (u.a4 : Int), .int .u16 (u.a5 : Int), .int .u16 (u.a6 : Int), .int .u16 (u.a7 : Int), .int .i64 u.port, .bool u.opaq, .slice A n c, .bool u.hasQ, .string u.query, .bool u.hasF, .string u.frag]] wx fun e w' => e = .returned (.string P) ∧ Below wx.heap.size wx w') := fun wx hb => by
    have := rpath_is hP A n c hn wx ((h.below (bel12 w _)).below hb) hw
    skip
    exact this
  have zT : T.size ≤ 200 := by rw [← hT, txt10_size]; exact textK_len (by have := hw.name; simpa using this) hw.nums.v4 rfl hw.nums.v6
  have zP : P.size ≤ 60000 := by rw [← hP, txt10_size]; exact path12_len hw
  have zN : N.size ≤ 19 := by rw [← hN, txt10_size]; exact dcm10_len 18 _ (by have := hw.nums.p1; omega)
  have z1 := hw.scheme; have z2 := hw.user; have z3 := hw.pass; have z5 := hw.query; have z6 := hw.frag
  have lT : T.data.toList = textK u.kind u.name.data.toList u.v4 u.v6 := by rw [← hT]; rfl
  have lP : P.data.toList = path12 u := by rw [← hP]; rfl
  have lN : N.data.toList = dcm10 u.port.toNat := by rw [← hN]; rfl
  have HR : Hid (R = u.scheme.data.toList ++ 58 :: (front12 u ++ (P.data.toList ++ (query12 u ++ frag12 u bare)))) := by show R = _; rw [← hR, lP]; rfl
  have e1 : (u.kind == 0) = false := beq_eq_false_iff_ne.2 hk
  have HF2 : front12 u = 47 :: 47 :: (cred12 u ++ (T.data.toList ++ port12 u)) := by (unfold front12; rw [if_pos hk, lT])
  unfold cred12 port12 at HF2
  simp only [hu2, hp2, h0, lN.symm, if_true, if_false, true_and, and_true, false_and, and_false, and_self] at HF2
  have HF := Lib.hid HF2
  have HU2 := Lib.hid hu2
  have HP2 := Lib.hid hp2
  clear HF2 hu2 hp2
  have HNm := Lib.hid (HN.out h0)
  clear HN
  clear hT hP hN hR lT lP lN
  go_enter Tryd.func11, Tryd.ntmps11
  go_wp2_with (first
    | ((with_reducible refine wpl12 rfl (.tmp 2) rfl s0.out ?hs ?hx ?_); (case hs => rfl); (case hx => rfl))
    | (go_at_call 20; (with_reducible refine (HT.out _).mono ?_); rintro e w1 ⟨rfl, hb⟩; have HB := Lib.hid (Below.refl w.heap.size w |>.trans (bel12 _ _ |>.trans (hb.mono (bel12 _ _).size))); (obtain ⟨s0, s14, s15, s16, s17, s18, s19, s20⟩ := HCs.out _ hb); have HBc := Lib.hid hb; clear hb)
    | (go_at_call 21; (with_reducible refine (HNm.out _).mono ?_); rintro e w2 ⟨rfl, hb⟩; have HBc := Lib.hid (bn12 HBc.out hb); clear s0 s14 s15 s16 s17 s18 s19 s20; (obtain ⟨s0, s14, s15, s16, s17, s18, s19, s20⟩ := HCs.out _ HBc.out); clear hb)
    | (go_at_call 13; (with_reducible refine (HP.out _ (by first | exact HBc.out | exact Below.refl _ _)).mono ?_); rintro e w3 ⟨rfl, hb⟩; (first | have HBc := Lib.hid (bn12 HBc.out hb) | have HBc := Lib.hid hb); (try clear s0 s14 s15 s16 s17 s18 s19 s20); (obtain ⟨s0, s14, s15, s16, s17, s18, s19, s20⟩ := HCs.out _ HBc.out); clear hb))
  all_goals
    go_ret
    refine ⟨?_, bn12 (bel12 _ _) HBc.out⟩
    rw [HR.out]
    refine congrArg (fun s => Ending.returned (.string s)) (str12 ?_)
    simp only [app12, HF.out, query12, frag12, *]
    simp [HU2.out, HP2.out]

set_option maxHeartbeats 8000000 in
set_option maxRecDepth 100000 in
theorem refText12_Bnn (u : Url12) (bare : Bool) (A : Option Addr) (n c : Nat) (hn : u.path.length = n) (w : World) (h : Segs w A u.path) (hw : Wee12 u) (hk : u.kind ≠ 0) (hu : (u.user.toList == []) = false) (hu2 : u.user ≠ ⟨#[]⟩) (hp : (u.pass.toList == []) = true) (hp2 : u.pass = ⟨#[]⟩) (h0 : ¬ 0 ≤ u.port) :
    Calls Tryd.prog 11 #[.agg #[.string u.scheme, .string u.user, .string u.pass, .int .i64 u.kind, .string u.name, .int .u32 (u.v4 : Int), .int .u16 (u.a0 : Int), .int .u16 (u.a1 : Int), .int .u16 (u.a2 : Int), .int .u16 (u.a3 : Int), .int .u16 (u.a4 : Int), .int .u16 (u.a5 : Int), .int .u16 (u.a6 : Int), .int .u16 (u.a7 : Int), .int .i64 u.port, .bool u.opaq, .slice A n c, .bool u.hasQ, .string u.query, .bool u.hasF, .string u.frag], .bool bare] w (Txt12 (text12 u bare) w) := by
  obtain ⟨T, hT⟩ : ∃ T, txt10 (textK u.kind u.name.data.toList u.v4 u.v6) = T := ⟨_, rfl⟩
  obtain ⟨P, hP⟩ : ∃ P, txt10 (path12 u) = P := ⟨_, rfl⟩
  obtain ⟨N, hN⟩ : ∃ N, txt10 (dcm10 u.port.toNat) = N := ⟨_, rfl⟩
  obtain ⟨R, hR⟩ : ∃ R, text12 u bare = R := ⟨_, rfl⟩
  rw [hR]
  have HCs := Lib.hid (cells12 (w := w) (.string u.scheme) (.string u.user) (.string u.pass) (.int .i64 u.kind) (.string u.name) (.int .u32 (u.v4 : Int)) (.int .u16 (u.a0 : Int)) (.int .u16 (u.a1 : Int)) (.int .u16 (u.a2 : Int)) (.int .u16 (u.a3 : Int)) (.int .u16 (u.a4 : Int)) (.int .u16 (u.a5 : Int)) (.int .u16 (u.a6 : Int)) (.int .u16 (u.a7 : Int)) (.int .i64 u.port) (.bool u.opaq) (.slice A n c) (.bool u.hasQ) (.string u.query) (.bool u.hasF) (.string u.frag))
  have HT := Lib.hid (fun w => htext12 hw.nums hT w)
  have HN := Lib.hid (fun (h0 : 0 ≤ u.port) w => num12_at h0 hw.nums.p1 hN w)
  have HP : Hid (∀ wx, Below (w.alloc (.cells #[.string u.scheme, .string u.user, .string u.pass, .int .i64 u.kind, .string u.name, .int .u32 (u.v4 : Int), .int .u16 (u.a0 : Int), .int .u16 (u.a1 : Int), .int .u16 (u.a2 : Int), .int .u16 (u.a3 : Int), .int .u16 (u.a4 : Int), .int .u16 (u.a5 : Int), .int .u16 (u.a6 : Int), .int .u16 (u.a7 : Int), .int .i64 u.port, .bool u.opaq, .slice A n c, .bool u.hasQ, .string u.query, .bool u.hasF, .string u.frag] 29)).heap.size (w.alloc (.cells #[.string u.scheme, .string u.user, .string u.pass, .int .i64 u.kind, .string u.name, .int .u32 (u.v4 : Int), .int .u16 (u.a0 : Int), .int .u16 (u.a1 : Int), .int .u16 (u.a2 : Int), .int .u16 (u.a3 : Int), .int .u16 (u.a4 : Int), .int .u16 (u.a5 : Int), .int .u16 (u.a6 : Int), .int .u16 (u.a7 : Int), .int .i64 u.port, .bool u.opaq, .slice A n c, .bool u.hasQ, .string u.query, .bool u.hasF, .string u.frag] 29)) wx → Calls Tryd.prog 13 #[.agg #[.string u.scheme, .string u.user, .string u.pass, .int .i64 u.kind, .string u.name, .int .u32 (u.v4 : Int), .int .u16 (u.a0 : Int), .int .u16 (u.a1 : Int), .int .u16 (u.a2 : Int), .int .u16 (u.a3 : Int), .int .u16 (u.a4 : Int), .int .u16 (u.a5 : Int), .int .u16 (u.a6 : Int), .int .u16 (u.a7 : Int), .int .i64 u.port, .bool u.opaq, .slice A n c, .bool u.hasQ, .string u.query, .bool u.hasF, .string u.frag]] wx fun e w' => e = .returned (.string P) ∧ Below wx.heap.size wx w') := fun wx hb => by
    have := rpath_is hP A n c hn wx ((h.below (bel12 w _)).below hb) hw
    skip
    exact this
  have zT : T.size ≤ 200 := by rw [← hT, txt10_size]; exact textK_len (by have := hw.name; simpa using this) hw.nums.v4 rfl hw.nums.v6
  have zP : P.size ≤ 60000 := by rw [← hP, txt10_size]; exact path12_len hw
  have zN : N.size ≤ 19 := by rw [← hN, txt10_size]; exact dcm10_len 18 _ (by have := hw.nums.p1; omega)
  have z1 := hw.scheme; have z2 := hw.user; have z3 := hw.pass; have z5 := hw.query; have z6 := hw.frag
  have lT : T.data.toList = textK u.kind u.name.data.toList u.v4 u.v6 := by rw [← hT]; rfl
  have lP : P.data.toList = path12 u := by rw [← hP]; rfl
  have lN : N.data.toList = dcm10 u.port.toNat := by rw [← hN]; rfl
  have HR : Hid (R = u.scheme.data.toList ++ 58 :: (front12 u ++ (P.data.toList ++ (query12 u ++ frag12 u bare)))) := by show R = _; rw [← hR, lP]; rfl
  have e1 : (u.kind == 0) = false := beq_eq_false_iff_ne.2 hk
  have HF2 : front12 u = 47 :: 47 :: (cred12 u ++ (T.data.toList ++ port12 u)) := by (unfold front12; rw [if_pos hk, lT])
  unfold cred12 port12 at HF2
  simp only [hu2, hp2, h0, lN.symm, if_true, if_false, true_and, and_true, false_and, and_false, and_self] at HF2
  have HF := Lib.hid HF2
  have HU2 := Lib.hid hu2
  have HP2 := Lib.hid hp2
  clear HF2 hu2 hp2
  clear HN
  clear hT hP hN hR lT lP lN
  go_enter Tryd.func11, Tryd.ntmps11
  go_wp2_with (first
    | ((with_reducible refine wpl12 rfl (.tmp 2) rfl s0.out ?hs ?hx ?_); (case hs => rfl); (case hx => rfl))
    | (go_at_call 20; (with_reducible refine (HT.out _).mono ?_); rintro e w1 ⟨rfl, hb⟩; have HB := Lib.hid (Below.refl w.heap.size w |>.trans (bel12 _ _ |>.trans (hb.mono (bel12 _ _).size))); (obtain ⟨s0, s14, s15, s16, s17, s18, s19, s20⟩ := HCs.out _ hb); have HBc := Lib.hid hb; clear hb)
    | (go_at_call 21; (with_reducible refine (HNm.out _).mono ?_); rintro e w2 ⟨rfl, hb⟩; have HBc := Lib.hid (bn12 HBc.out hb); clear s0 s14 s15 s16 s17 s18 s19 s20; (obtain ⟨s0, s14, s15, s16, s17, s18, s19, s20⟩ := HCs.out _ HBc.out); clear hb)
    | (go_at_call 13; (with_reducible refine (HP.out _ (by first | exact HBc.out | exact Below.refl _ _)).mono ?_); rintro e w3 ⟨rfl, hb⟩; (first | have HBc := Lib.hid (bn12 HBc.out hb) | have HBc := Lib.hid hb); (try clear s0 s14 s15 s16 s17 s18 s19 s20); (obtain ⟨s0, s14, s15, s16, s17, s18, s19, s20⟩ := HCs.out _ HBc.out); clear hb))
  all_goals
    go_ret
    refine ⟨?_, bn12 (bel12 _ _) HBc.out⟩
    rw [HR.out]
    refine congrArg (fun s => Ending.returned (.string s)) (str12 ?_)
    simp only [app12, HF.out, query12, frag12, *]
    simp [HU2.out, HP2.out]

set_option maxHeartbeats 8000000 in
set_option maxRecDepth 100000 in
theorem refText12_Byy (u : Url12) (bare : Bool) (A : Option Addr) (n c : Nat) (hn : u.path.length = n) (w : World) (h : Segs w A u.path) (hw : Wee12 u) (hk : u.kind ≠ 0) (hu : (u.user.toList == []) = false) (hu2 : u.user ≠ ⟨#[]⟩) (hp : (u.pass.toList == []) = false) (hp2 : u.pass ≠ ⟨#[]⟩) (h0 : 0 ≤ u.port) :
    Calls Tryd.prog 11 #[.agg #[.string u.scheme, .string u.user, .string u.pass, .int .i64 u.kind, .string u.name, .int .u32 (u.v4 : Int), .int .u16 (u.a0 : Int), .int .u16 (u.a1 : Int), .int .u16 (u.a2 : Int), .int .u16 (u.a3 : Int), .int .u16 (u.a4 : Int), .int .u16 (u.a5 : Int), .int .u16 (u.a6 : Int), .int .u16 (u.a7 : Int), .int .i64 u.port, .bool u.opaq, .slice A n c, .bool u.hasQ, .string u.query, .bool u.hasF, .string u.frag], .bool bare] w (Txt12 (text12 u bare) w) := by
  obtain ⟨T, hT⟩ : ∃ T, txt10 (textK u.kind u.name.data.toList u.v4 u.v6) = T := ⟨_, rfl⟩
  obtain ⟨P, hP⟩ : ∃ P, txt10 (path12 u) = P := ⟨_, rfl⟩
  obtain ⟨N, hN⟩ : ∃ N, txt10 (dcm10 u.port.toNat) = N := ⟨_, rfl⟩
  obtain ⟨R, hR⟩ : ∃ R, text12 u bare = R := ⟨_, rfl⟩
  rw [hR]
  have HCs := Lib.hid (cells12 (w := w) (.string u.scheme) (.string u.user) (.string u.pass) (.int .i64 u.kind) (.string u.name) (.int .u32 (u.v4 : Int)) (.int .u16 (u.a0 : Int)) (.int .u16 (u.a1 : Int)) (.int .u16 (u.a2 : Int)) (.int .u16 (u.a3 : Int)) (.int .u16 (u.a4 : Int)) (.int .u16 (u.a5 : Int)) (.int .u16 (u.a6 : Int)) (.int .u16 (u.a7 : Int)) (.int .i64 u.port) (.bool u.opaq) (.slice A n c) (.bool u.hasQ) (.string u.query) (.bool u.hasF) (.string u.frag))
  have HT := Lib.hid (fun w => htext12 hw.nums hT w)
  have HN := Lib.hid (fun (h0 : 0 ≤ u.port) w => num12_at h0 hw.nums.p1 hN w)
  have HP : Hid (∀ wx, Below (w.alloc (.cells #[.string u.scheme, .string u.user, .string u.pass, .int .i64 u.kind, .string u.name, .int .u32 (u.v4 : Int), .int .u16 (u.a0 : Int), .int .u16 (u.a1 : Int), .int .u16 (u.a2 : Int), .int .u16 (u.a3 : Int), .int .u16 (u.a4 : Int), .int .u16 (u.a5 : Int), .int .u16 (u.a6 : Int), .int .u16 (u.a7 : Int), .int .i64 u.port, .bool u.opaq, .slice A n c, .bool u.hasQ, .string u.query, .bool u.hasF, .string u.frag] 29)).heap.size (w.alloc (.cells #[.string u.scheme, .string u.user, .string u.pass, .int .i64 u.kind, .string u.name, .int .u32 (u.v4 : Int), .int .u16 (u.a0 : Int), .int .u16 (u.a1 : Int), .int .u16 (u.a2 : Int), .int .u16 (u.a3 : Int), .int .u16 (u.a4 : Int), .int .u16 (u.a5 : Int), .int .u16 (u.a6 : Int), .int .u16 (u.a7 : Int), .int .i64 u.port, .bool u.opaq, .slice A n c, .bool u.hasQ, .string u.query, .bool u.hasF, .string u.frag] 29)) wx → Calls Tryd.prog 13 #[.agg #[.string u.scheme, .string u.user, .string u.pass, .int .i64 u.kind, .string u.name, .int .u32 (u.v4 : Int), .int .u16 (u.a0 : Int), .int .u16 (u.a1 : Int), .int .u16 (u.a2 : Int), .int .u16 (u.a3 : Int), .int .u16 (u.a4 : Int), .int .u16 (u.a5 : Int), .int .u16 (u.a6 : Int), .int .u16 (u.a7 : Int), .int .i64 u.port, .bool u.opaq, .slice A n c, .bool u.hasQ, .string u.query, .bool u.hasF, .string u.frag]] wx fun e w' => e = .returned (.string P) ∧ Below wx.heap.size wx w') := fun wx hb => by
    have := rpath_is hP A n c hn wx ((h.below (bel12 w _)).below hb) hw
    skip
    exact this
  have zT : T.size ≤ 200 := by rw [← hT, txt10_size]; exact textK_len (by have := hw.name; simpa using this) hw.nums.v4 rfl hw.nums.v6
  have zP : P.size ≤ 60000 := by rw [← hP, txt10_size]; exact path12_len hw
  have zN : N.size ≤ 19 := by rw [← hN, txt10_size]; exact dcm10_len 18 _ (by have := hw.nums.p1; omega)
  have z1 := hw.scheme; have z2 := hw.user; have z3 := hw.pass; have z5 := hw.query; have z6 := hw.frag
  have lT : T.data.toList = textK u.kind u.name.data.toList u.v4 u.v6 := by rw [← hT]; rfl
  have lP : P.data.toList = path12 u := by rw [← hP]; rfl
  have lN : N.data.toList = dcm10 u.port.toNat := by rw [← hN]; rfl
  have HR : Hid (R = u.scheme.data.toList ++ 58 :: (front12 u ++ (P.data.toList ++ (query12 u ++ frag12 u bare)))) := by show R = _; rw [← hR, lP]; rfl
  have e1 : (u.kind == 0) = false := beq_eq_false_iff_ne.2 hk
  have HF2 : front12 u = 47 :: 47 :: (cred12 u ++ (T.data.toList ++ port12 u)) := by (unfold front12; rw [if_pos hk, lT])
  unfold cred12 port12 at HF2
  simp only [hu2, hp2, h0, lN.symm, if_true, if_false, true_and, and_true, false_and, and_false, and_self] at HF2
  have HF := Lib.hid HF2
  have HU2 := Lib.hid hu2
  have HP2 := Lib.hid hp2
  clear HF2 hu2 hp2
  have HNm := Lib.hid (HN.out h0)
  clear HN
  clear hT hP hN hR lT lP lN
  go_enter Tryd.func11, Tryd.ntmps11
  go_wp2_with (first
    | ((with_reducible refine wpl12 rfl (.tmp 2) rfl s0.out ?hs ?hx ?_); (case hs => rfl); (case hx => rfl))
    | (go_at_call 20; (with_reducible refine (HT.out _).mono ?_); rintro e w1 ⟨rfl, hb⟩; have HB := Lib.hid (Below.refl w.heap.size w |>.trans (bel12 _ _ |>.trans (hb.mono (bel12 _ _).size))); (obtain ⟨s0, s14, s15, s16, s17, s18, s19, s20⟩ := HCs.out _ hb); have HBc := Lib.hid hb; clear hb)
    | (go_at_call 21; (with_reducible refine (HNm.out _).mono ?_); rintro e w2 ⟨rfl, hb⟩; have HBc := Lib.hid (bn12 HBc.out hb); clear s0 s14 s15 s16 s17 s18 s19 s20; (obtain ⟨s0, s14, s15, s16, s17, s18, s19, s20⟩ := HCs.out _ HBc.out); clear hb)
    | (go_at_call 13; (with_reducible refine (HP.out _ (by first | exact HBc.out | exact Below.refl _ _)).mono ?_); rintro e w3 ⟨rfl, hb⟩; (first | have HBc := Lib.hid (bn12 HBc.out hb) | have HBc := Lib.hid hb); (try clear s0 s14 s15 s16 s17 s18 s19 s20); (obtain ⟨s0, s14, s15, s16, s17, s18, s19, s20⟩ := HCs.out _ HBc.out); clear hb))
  all_goals
    go_ret
    refine ⟨?_, bn12 (bel12 _ _) HBc.out⟩
    rw [HR.out]
    refine congrArg (fun s => Ending.returned (.string s)) (str12 ?_)
    simp only [app12, HF.out, query12, frag12, *]
    simp [HU2.out, HP2.out]

set_option maxHeartbeats 8000000 in
set_option maxRecDepth 100000 in
theorem refText12_Byn (u : Url12) (bare : Bool) (A : Option Addr) (n c : Nat) (hn : u.path.length = n) (w : World) (h : Segs w A u.path) (hw : Wee12 u) (hk : u.kind ≠ 0) (hu : (u.user.toList == []) = false) (hu2 : u.user ≠ ⟨#[]⟩) (hp : (u.pass.toList == []) = false) (hp2 : u.pass ≠ ⟨#[]⟩) (h0 : ¬ 0 ≤ u.port) :
    Calls Tryd.prog 11 #[.agg #[.string u.scheme, .string u.user, .string u.pass, .int .i64 u.kind, .string u.name, .int .u32 (u.v4 : Int), .int .u16 (u.a0 : Int), .int .u16 (u.a1 : Int), .int .u16 (u.a2 : Int), .int .u16 (u.a3 : Int), .int .u16 (u.a4 : Int), .int .u16 (u.a5 : Int), .int .u16 (u.a6 : Int), .int .u16 (u.a7 : Int), .int .i64 u.port, .bool u.opaq, .slice A n c, .bool u.hasQ, .string u.query, .bool u.hasF, .string u.frag], .bool bare] w (Txt12 (text12 u bare) w) := by
  obtain ⟨T, hT⟩ : ∃ T, txt10 (textK u.kind u.name.data.toList u.v4 u.v6) = T := ⟨_, rfl⟩
  obtain ⟨P, hP⟩ : ∃ P, txt10 (path12 u) = P := ⟨_, rfl⟩
  obtain ⟨N, hN⟩ : ∃ N, txt10 (dcm10 u.port.toNat) = N := ⟨_, rfl⟩
  obtain ⟨R, hR⟩ : ∃ R, text12 u bare = R := ⟨_, rfl⟩
  rw [hR]
  have HCs := Lib.hid (cells12 (w := w) (.string u.scheme) (.string u.user) (.string u.pass) (.int .i64 u.kind) (.string u.name) (.int .u32 (u.v4 : Int)) (.int .u16 (u.a0 : Int)) (.int .u16 (u.a1 : Int)) (.int .u16 (u.a2 : Int)) (.int .u16 (u.a3 : Int)) (.int .u16 (u.a4 : Int)) (.int .u16 (u.a5 : Int)) (.int .u16 (u.a6 : Int)) (.int .u16 (u.a7 : Int)) (.int .i64 u.port) (.bool u.opaq) (.slice A n c) (.bool u.hasQ) (.string u.query) (.bool u.hasF) (.string u.frag))
  have HT := Lib.hid (fun w => htext12 hw.nums hT w)
  have HN := Lib.hid (fun (h0 : 0 ≤ u.port) w => num12_at h0 hw.nums.p1 hN w)
  have HP : Hid (∀ wx, Below (w.alloc (.cells #[.string u.scheme, .string u.user, .string u.pass, .int .i64 u.kind, .string u.name, .int .u32 (u.v4 : Int), .int .u16 (u.a0 : Int), .int .u16 (u.a1 : Int), .int .u16 (u.a2 : Int), .int .u16 (u.a3 : Int), .int .u16 (u.a4 : Int), .int .u16 (u.a5 : Int), .int .u16 (u.a6 : Int), .int .u16 (u.a7 : Int), .int .i64 u.port, .bool u.opaq, .slice A n c, .bool u.hasQ, .string u.query, .bool u.hasF, .string u.frag] 29)).heap.size (w.alloc (.cells #[.string u.scheme, .string u.user, .string u.pass, .int .i64 u.kind, .string u.name, .int .u32 (u.v4 : Int), .int .u16 (u.a0 : Int), .int .u16 (u.a1 : Int), .int .u16 (u.a2 : Int), .int .u16 (u.a3 : Int), .int .u16 (u.a4 : Int), .int .u16 (u.a5 : Int), .int .u16 (u.a6 : Int), .int .u16 (u.a7 : Int), .int .i64 u.port, .bool u.opaq, .slice A n c, .bool u.hasQ, .string u.query, .bool u.hasF, .string u.frag] 29)) wx → Calls Tryd.prog 13 #[.agg #[.string u.scheme, .string u.user, .string u.pass, .int .i64 u.kind, .string u.name, .int .u32 (u.v4 : Int), .int .u16 (u.a0 : Int), .int .u16 (u.a1 : Int), .int .u16 (u.a2 : Int), .int .u16 (u.a3 : Int), .int .u16 (u.a4 : Int), .int .u16 (u.a5 : Int), .int .u16 (u.a6 : Int), .int .u16 (u.a7 : Int), .int .i64 u.port, .bool u.opaq, .slice A n c, .bool u.hasQ, .string u.query, .bool u.hasF, .string u.frag]] wx fun e w' => e = .returned (.string P) ∧ Below wx.heap.size wx w') := fun wx hb => by
    have := rpath_is hP A n c hn wx ((h.below (bel12 w _)).below hb) hw
    skip
    exact this
  have zT : T.size ≤ 200 := by rw [← hT, txt10_size]; exact textK_len (by have := hw.name; simpa using this) hw.nums.v4 rfl hw.nums.v6
  have zP : P.size ≤ 60000 := by rw [← hP, txt10_size]; exact path12_len hw
  have zN : N.size ≤ 19 := by rw [← hN, txt10_size]; exact dcm10_len 18 _ (by have := hw.nums.p1; omega)
  have z1 := hw.scheme; have z2 := hw.user; have z3 := hw.pass; have z5 := hw.query; have z6 := hw.frag
  have lT : T.data.toList = textK u.kind u.name.data.toList u.v4 u.v6 := by rw [← hT]; rfl
  have lP : P.data.toList = path12 u := by rw [← hP]; rfl
  have lN : N.data.toList = dcm10 u.port.toNat := by rw [← hN]; rfl
  have HR : Hid (R = u.scheme.data.toList ++ 58 :: (front12 u ++ (P.data.toList ++ (query12 u ++ frag12 u bare)))) := by show R = _; rw [← hR, lP]; rfl
  have e1 : (u.kind == 0) = false := beq_eq_false_iff_ne.2 hk
  have HF2 : front12 u = 47 :: 47 :: (cred12 u ++ (T.data.toList ++ port12 u)) := by (unfold front12; rw [if_pos hk, lT])
  unfold cred12 port12 at HF2
  simp only [hu2, hp2, h0, lN.symm, if_true, if_false, true_and, and_true, false_and, and_false, and_self] at HF2
  have HF := Lib.hid HF2
  have HU2 := Lib.hid hu2
  have HP2 := Lib.hid hp2
  clear HF2 hu2 hp2
  clear HN
  clear hT hP hN hR lT lP lN
  go_enter Tryd.func11, Tryd.ntmps11
  go_wp2_with (first
    | ((with_reducible refine wpl12 rfl (.tmp 2) rfl s0.out ?hs ?hx ?_); (case hs => rfl); (case hx => rfl))
    | (go_at_call 20; (with_reducible refine (HT.out _).mono ?_); rintro e w1 ⟨rfl, hb⟩; have HB := Lib.hid (Below.refl w.heap.size w |>.trans (bel12 _ _ |>.trans (hb.mono (bel12 _ _).size))); (obtain ⟨s0, s14, s15, s16, s17, s18, s19, s20⟩ := HCs.out _ hb); have HBc := Lib.hid hb; clear hb)
    | (go_at_call 21; (with_reducible refine (HNm.out _).mono ?_); rintro e w2 ⟨rfl, hb⟩; have HBc := Lib.hid (bn12 HBc.out hb); clear s0 s14 s15 s16 s17 s18 s19 s20; (obtain ⟨s0, s14, s15, s16, s17, s18, s19, s20⟩ := HCs.out _ HBc.out); clear hb)
    | (go_at_call 13; (with_reducible refine (HP.out _ (by first | exact HBc.out | exact Below.refl _ _)).mono ?_); rintro e w3 ⟨rfl, hb⟩; (first | have HBc := Lib.hid (bn12 HBc.out hb) | have HBc := Lib.hid hb); (try clear s0 s14 s15 s16 s17 s18 s19 s20); (obtain ⟨s0, s14, s15, s16, s17, s18, s19, s20⟩ := HCs.out _ HBc.out); clear hb))
  all_goals
    go_ret
    refine ⟨?_, bn12 (bel12 _ _) HBc.out⟩
    rw [HR.out]
    refine congrArg (fun s => Ending.returned (.string s)) (str12 ?_)
    simp only [app12, HF.out, query12, frag12, *]
    simp [HU2.out, HP2.out]
end Go.Proofs.YtliklhldlofnjaaDoor

/-
  The document's Text of layer 12, without a host (written by mkrec.py).
-/
namespace Go.Proofs.YtliklhldlofnjaaDoor
open Go.RowKit

set_option maxHeartbeats 8000000 in
set_option maxRecDepth 100000 in
theorem refText12_o (u : Url12) (bare : Bool) (A : Option Addr) (n c : Nat) (hn : u.path.length = n) (w : World) (h : Segs w A u.path) (hw : Wee12 u) (hk : u.kind = 0) (ho : u.opaq = true) :
    Calls Tryd.prog 11 #[.agg #[.string u.scheme, .string u.user, .string u.pass, .int .i64 u.kind, .string u.name, .int .u32 (u.v4 : Int), .int .u16 (u.a0 : Int), .int .u16 (u.a1 : Int), .int .u16 (u.a2 : Int), .int .u16 (u.a3 : Int), .int .u16 (u.a4 : Int), .int .u16 (u.a5 : Int), .int .u16 (u.a6 : Int), .int .u16 (u.a7 : Int), .int .i64 u.port, .bool true, .slice A n c, .bool u.hasQ, .string u.query, .bool u.hasF, .string u.frag], .bool bare] w (Txt12 (text12 u bare) w) := by
  obtain ⟨T, hT⟩ : ∃ T, txt10 (textK u.kind u.name.data.toList u.v4 u.v6) = T := ⟨_, rfl⟩
  obtain ⟨P, hP⟩ : ∃ P, txt10 (path12 u) = P := ⟨_, rfl⟩
  obtain ⟨N, hN⟩ : ∃ N, txt10 (dcm10 u.port.toNat) = N := ⟨_, rfl⟩
  obtain ⟨R, hR⟩ : ∃ R, text12 u bare = R := ⟨_, rfl⟩
  rw [hR]
  have HCs := Lib.hid (cells12 (w := w) (.string u.scheme) (.string u.user) (.string u.pass) (.int .i64 u.kind) (.string u.name) (.int .u32 (u.v4 : Int)) (.int .u16 (u.a0 : Int)) (.int .u16 (u.a1 : Int)) (.int .u16 (u.a2 : Int)) (.int .u16 (u.a3 : Int)) (.int .u16 (u.a4 : Int)) (.int .u16 (u.a5 : Int)) (.int .u16 (u.a6 : Int)) (.int .u16 (u.a7 : Int)) (.int .i64 u.port) (.bool true) (.slice A n c) (.bool u.hasQ) (.string u.query) (.bool u.hasF) (.string u.frag))
  have HT := Lib.hid (fun w => htext12 hw.nums hT w)
  have HN := Lib.hid (fun (h0 : 0 ≤ u.port) w => num12_at h0 hw.nums.p1 hN w)
  have HP : Hid (∀ wx, Below (w.alloc (.cells #[.string u.scheme, .string u.user, .string u.pass, .int .i64 u.kind, .string u.name, .int .u32 (u.v4 : Int), .int .u16 (u.a0 : Int), .int .u16 (u.a1 : Int), .int .u16 (u.a2 : Int), .int .u16 (u.a3 : Int), .int .u16 (u.a4 : Int), .int .u16 (u.a5 : Int), .int .u16 (u.a6 : Int), .int .u16 (u.a7 : Int), .int .i64 u.port, .bool true, .slice A n c, .bool u.hasQ, .string u.query, .bool u.hasF, .string u.frag] 29)).heap.size (w.alloc (.cells #[.string u.scheme, .string u.user, .string u.pass, .int .i64 u.kind, .string u.name, .int .u32 (u.v4 : Int), .int .u16 (u.a0 : Int), .int .u16 (u.a1 : Int), .int .u16 (u.a2 : Int), .int .u16 (u.a3 : Int), .int .u16 (u.a4 : Int), .int .u16 (u.a5 : Int), .int .u16 (u.a6 : Int), .int .u16 (u.a7 : Int), .int .i64 u.port, .bool true, .slice A n c, .bool u.hasQ, .string u.query, .bool u.hasF, .string u.frag] 29)) wx → Calls Tryd.prog 13 #[.agg #[.string u.scheme, .string u.user, .string u.pass, .int .i64 u.kind, .string u.name, .int .u32 (u.v4 : Int), .int .u16 (u.a0 : Int), .int .u16 (u.a1 : Int), .int .u16 (u.a2 : Int), .int .u16 (u.a3 : Int), .int .u16 (u.a4 : Int), .int .u16 (u.a5 : Int), .int .u16 (u.a6 : Int), .int .u16 (u.a7 : Int), .int .i64 u.port, .bool true, .slice A n c, .bool u.hasQ, .string u.query, .bool u.hasF, .string u.frag]] wx fun e w' => e = .returned (.string P) ∧ Below wx.heap.size wx w') := fun wx hb => by
    have := rpath_is hP A n c hn wx ((h.below (bel12 w _)).below hb) hw
    rw [ho] at this
    exact this
  have zT : T.size ≤ 200 := by rw [← hT, txt10_size]; exact textK_len (by have := hw.name; simpa using this) hw.nums.v4 rfl hw.nums.v6
  have zP : P.size ≤ 60000 := by rw [← hP, txt10_size]; exact path12_len hw
  have zN : N.size ≤ 19 := by rw [← hN, txt10_size]; exact dcm10_len 18 _ (by have := hw.nums.p1; omega)
  have z1 := hw.scheme; have z2 := hw.user; have z3 := hw.pass; have z5 := hw.query; have z6 := hw.frag
  have lT : T.data.toList = textK u.kind u.name.data.toList u.v4 u.v6 := by rw [← hT]; rfl
  have lP : P.data.toList = path12 u := by rw [← hP]; rfl
  have lN : N.data.toList = dcm10 u.port.toNat := by rw [← hN]; rfl
  have HR : Hid (R = u.scheme.data.toList ++ 58 :: (front12 u ++ (P.data.toList ++ (query12 u ++ frag12 u bare)))) := by show R = _; rw [← hR, lP]; rfl
  have e1 : (u.kind == 0) = true := beq_iff_eq.2 hk
  have HF : Hid (front12 u = []) := by (show front12 u = _; unfold front12; rw [if_neg (by rw [hk]; simp)]; unfold dotted12; rw [ho]; rfl)
  have hn50 : n ≤ 50 := by have := hw.len; omega
  clear HN HT
  clear hT hP hN hR lT lP lN
  clear hk ho h hw hn
  go_enter Tryd.func11, Tryd.ntmps11
  go_wp2_with (first
    | ((with_reducible refine wpl12 rfl (.tmp 2) rfl (HCs.out (w.alloc (.cells #[.string u.scheme, .string u.user, .string u.pass, .int .i64 u.kind, .string u.name, .int .u32 (u.v4 : Int), .int .u16 (u.a0 : Int), .int .u16 (u.a1 : Int), .int .u16 (u.a2 : Int), .int .u16 (u.a3 : Int), .int .u16 (u.a4 : Int), .int .u16 (u.a5 : Int), .int .u16 (u.a6 : Int), .int .u16 (u.a7 : Int), .int .i64 u.port, .bool true, .slice A n c, .bool u.hasQ, .string u.query, .bool u.hasF, .string u.frag] 29)) (Below.refl _ _)).1.out ?hs ?hx ?_); (case hs => rfl); (case hx => rfl))
    | ((with_reducible refine wpl12 rfl (.tmp 2) rfl s0.out ?hs ?hx ?_); (case hs => rfl); (case hx => rfl))
    | (go_at_call 20; (with_reducible refine (HT.out _).mono ?_); rintro e w1 ⟨rfl, hb⟩; have HB := Lib.hid (Below.refl w.heap.size w |>.trans (bel12 _ _ |>.trans (hb.mono (bel12 _ _).size))); (obtain ⟨s0, s14, s15, s16, s17, s18, s19, s20⟩ := HCs.out _ hb); have HBc := Lib.hid hb; clear hb)
    | (go_at_call 21; (with_reducible refine (HN.out _).mono ?_); rintro e w2 ⟨rfl, hb⟩; have HBc := Lib.hid (bn12 HBc.out hb); clear s0 s14 s15 s16 s17 s18 s19 s20; (obtain ⟨s0, s14, s15, s16, s17, s18, s19, s20⟩ := HCs.out _ HBc.out); clear hb)
    | (go_at_call 13; (with_reducible refine (HP.out _ (by first | exact HBc.out | exact Below.refl _ _)).mono ?_); rintro e w3 ⟨rfl, hb⟩; (first | have HBc := Lib.hid (bn12 HBc.out hb) | have HBc := Lib.hid hb); (try clear s0 s14 s15 s16 s17 s18 s19 s20); (obtain ⟨s0, s14, s15, s16, s17, s18, s19, s20⟩ := HCs.out _ HBc.out); clear hb))
  all_goals
    go_ret
    refine ⟨?_, bn12 (bel12 _ _) HBc.out⟩
    rw [HR.out]
    refine congrArg (fun s => Ending.returned (.string s)) (str12 ?_)
    simp only [app12, HF.out, query12, frag12, *]
    simp 

set_option maxHeartbeats 8000000 in
set_option maxRecDepth 100000 in
theorem refText12_s (u : Url12) (bare : Bool) (A : Option Addr) (n c : Nat) (hn : u.path.length = n) (w : World) (h : Segs w A u.path) (hw : Wee12 u) (hk : u.kind = 0) (ho : u.opaq = false) (h1 : n ≤ 1) :
    Calls Tryd.prog 11 #[.agg #[.string u.scheme, .string u.user, .string u.pass, .int .i64 u.kind, .string u.name, .int .u32 (u.v4 : Int), .int .u16 (u.a0 : Int), .int .u16 (u.a1 : Int), .int .u16 (u.a2 : Int), .int .u16 (u.a3 : Int), .int .u16 (u.a4 : Int), .int .u16 (u.a5 : Int), .int .u16 (u.a6 : Int), .int .u16 (u.a7 : Int), .int .i64 u.port, .bool false, .slice A n c, .bool u.hasQ, .string u.query, .bool u.hasF, .string u.frag], .bool bare] w (Txt12 (text12 u bare) w) := by
  obtain ⟨T, hT⟩ : ∃ T, txt10 (textK u.kind u.name.data.toList u.v4 u.v6) = T := ⟨_, rfl⟩
  obtain ⟨P, hP⟩ : ∃ P, txt10 (path12 u) = P := ⟨_, rfl⟩
  obtain ⟨N, hN⟩ : ∃ N, txt10 (dcm10 u.port.toNat) = N := ⟨_, rfl⟩
  obtain ⟨R, hR⟩ : ∃ R, text12 u bare = R := ⟨_, rfl⟩
  rw [hR]
  have HCs := Lib.hid (cells12 (w := w) (.string u.scheme) (.string u.user) (.string u.pass) (.int .i64 u.kind) (.string u.name) (.int .u32 (u.v4 : Int)) (.int .u16 (u.a0 : Int)) (.int .u16 (u.a1 : Int)) (.int .u16 (u.a2 : Int)) (.int .u16 (u.a3 : Int)) (.int .u16 (u.a4 : Int)) (.int .u16 (u.a5 : Int)) (.int .u16 (u.a6 : Int)) (.int .u16 (u.a7 : Int)) (.int .i64 u.port) (.bool false) (.slice A n c) (.bool u.hasQ) (.string u.query) (.bool u.hasF) (.string u.frag))
  have HT := Lib.hid (fun w => htext12 hw.nums hT w)
  have HN := Lib.hid (fun (h0 : 0 ≤ u.port) w => num12_at h0 hw.nums.p1 hN w)
  have HP : Hid (∀ wx, Below (w.alloc (.cells #[.string u.scheme, .string u.user, .string u.pass, .int .i64 u.kind, .string u.name, .int .u32 (u.v4 : Int), .int .u16 (u.a0 : Int), .int .u16 (u.a1 : Int), .int .u16 (u.a2 : Int), .int .u16 (u.a3 : Int), .int .u16 (u.a4 : Int), .int .u16 (u.a5 : Int), .int .u16 (u.a6 : Int), .int .u16 (u.a7 : Int), .int .i64 u.port, .bool false, .slice A n c, .bool u.hasQ, .string u.query, .bool u.hasF, .string u.frag] 29)).heap.size (w.alloc (.cells #[.string u.scheme, .string u.user, .string u.pass, .int .i64 u.kind, .string u.name, .int .u32 (u.v4 : Int), .int .u16 (u.a0 : Int), .int .u16 (u.a1 : Int), .int .u16 (u.a2 : Int), .int .u16 (u.a3 : Int), .int .u16 (u.a4 : Int), .int .u16 (u.a5 : Int), .int .u16 (u.a6 : Int), .int .u16 (u.a7 : Int), .int .i64 u.port, .bool false, .slice A n c, .bool u.hasQ, .string u.query, .bool u.hasF, .string u.frag] 29)) wx → Calls Tryd.prog 13 #[.agg #[.string u.scheme, .string u.user, .string u.pass, .int .i64 u.kind, .string u.name, .int .u32 (u.v4 : Int), .int .u16 (u.a0 : Int), .int .u16 (u.a1 : Int), .int .u16 (u.a2 : Int), .int .u16 (u.a3 : Int), .int .u16 (u.a4 : Int), .int .u16 (u.a5 : Int), .int .u16 (u.a6 : Int), .int .u16 (u.a7 : Int), .int .i64 u.port, .bool false, .slice A n c, .bool u.hasQ, .string u.query, .bool u.hasF, .string u.frag]] wx fun e w' => e = .returned (.string P) ∧ Below wx.heap.size wx w') := fun wx hb => by
    have := rpath_is hP A n c hn wx ((h.below (bel12 w _)).below hb) hw
    rw [ho] at this
    exact this
  have zT : T.size ≤ 200 := by rw [← hT, txt10_size]; exact textK_len (by have := hw.name; simpa using this) hw.nums.v4 rfl hw.nums.v6
  have zP : P.size ≤ 60000 := by rw [← hP, txt10_size]; exact path12_len hw
  have zN : N.size ≤ 19 := by rw [← hN, txt10_size]; exact dcm10_len 18 _ (by have := hw.nums.p1; omega)
  have z1 := hw.scheme; have z2 := hw.user; have z3 := hw.pass; have z5 := hw.query; have z6 := hw.frag
  have lT : T.data.toList = textK u.kind u.name.data.toList u.v4 u.v6 := by rw [← hT]; rfl
  have lP : P.data.toList = path12 u := by rw [← hP]; rfl
  have lN : N.data.toList = dcm10 u.port.toNat := by rw [← hN]; rfl
  have HR : Hid (R = u.scheme.data.toList ++ 58 :: (front12 u ++ (P.data.toList ++ (query12 u ++ frag12 u bare)))) := by show R = _; rw [← hR, lP]; rfl
  have e1 : (u.kind == 0) = true := beq_iff_eq.2 hk
  have HF : Hid (front12 u = []) := by (show front12 u = _; unfold front12; rw [if_neg (by rw [hk]; simp)]; unfold dotted12; rw [ho, decide_eq_false (show ¬ 1 < u.path.length by omega)]; rfl)
  have hn50 : n ≤ 50 := by have := hw.len; omega
  have d1 : decide ((1 : Int) < (n : Int)) = false := decide_eq_false (by omega)
  clear HN HT
  clear hT hP hN hR lT lP lN
  clear hk ho h hw hn
  go_enter Tryd.func11, Tryd.ntmps11
  go_wp2_with (first
    | ((with_reducible refine wpl12 rfl (.tmp 2) rfl (HCs.out (w.alloc (.cells #[.string u.scheme, .string u.user, .string u.pass, .int .i64 u.kind, .string u.name, .int .u32 (u.v4 : Int), .int .u16 (u.a0 : Int), .int .u16 (u.a1 : Int), .int .u16 (u.a2 : Int), .int .u16 (u.a3 : Int), .int .u16 (u.a4 : Int), .int .u16 (u.a5 : Int), .int .u16 (u.a6 : Int), .int .u16 (u.a7 : Int), .int .i64 u.port, .bool false, .slice A n c, .bool u.hasQ, .string u.query, .bool u.hasF, .string u.frag] 29)) (Below.refl _ _)).1.out ?hs ?hx ?_); (case hs => rfl); (case hx => rfl))
    | ((with_reducible refine wpl12 rfl (.tmp 2) rfl s0.out ?hs ?hx ?_); (case hs => rfl); (case hx => rfl))
    | (go_at_call 20; (with_reducible refine (HT.out _).mono ?_); rintro e w1 ⟨rfl, hb⟩; have HB := Lib.hid (Below.refl w.heap.size w |>.trans (bel12 _ _ |>.trans (hb.mono (bel12 _ _).size))); (obtain ⟨s0, s14, s15, s16, s17, s18, s19, s20⟩ := HCs.out _ hb); have HBc := Lib.hid hb; clear hb)
    | (go_at_call 21; (with_reducible refine (HN.out _).mono ?_); rintro e w2 ⟨rfl, hb⟩; have HBc := Lib.hid (bn12 HBc.out hb); clear s0 s14 s15 s16 s17 s18 s19 s20; (obtain ⟨s0, s14, s15, s16, s17, s18, s19, s20⟩ := HCs.out _ HBc.out); clear hb)
    | (go_at_call 13; (with_reducible refine (HP.out _ (by first | exact HBc.out | exact Below.refl _ _)).mono ?_); rintro e w3 ⟨rfl, hb⟩; (first | have HBc := Lib.hid (bn12 HBc.out hb) | have HBc := Lib.hid hb); (try clear s0 s14 s15 s16 s17 s18 s19 s20); (obtain ⟨s0, s14, s15, s16, s17, s18, s19, s20⟩ := HCs.out _ HBc.out); clear hb))
  all_goals
    go_ret
    refine ⟨?_, bn12 (bel12 _ _) HBc.out⟩
    rw [HR.out]
    refine congrArg (fun s => Ending.returned (.string s)) (str12 ?_)
    simp only [app12, HF.out, query12, frag12, *]
    simp 

set_option maxHeartbeats 8000000 in
set_option maxRecDepth 100000 in
theorem refText12_e (u : Url12) (bare : Bool) (A : Option Addr) (n c : Nat) (hn : u.path.length = n) (w : World) (h : Segs w A u.path) (hw : Wee12 u) (hk : u.kind = 0) (ho : u.opaq = false) (p : Seg) (ps : List Seg) (hp : u.path = p :: ps) (hpe : p = []) (h1 : 1 < n) :
    Calls Tryd.prog 11 #[.agg #[.string u.scheme, .string u.user, .string u.pass, .int .i64 u.kind, .string u.name, .int .u32 (u.v4 : Int), .int .u16 (u.a0 : Int), .int .u16 (u.a1 : Int), .int .u16 (u.a2 : Int), .int .u16 (u.a3 : Int), .int .u16 (u.a4 : Int), .int .u16 (u.a5 : Int), .int .u16 (u.a6 : Int), .int .u16 (u.a7 : Int), .int .i64 u.port, .bool false, .slice A n c, .bool u.hasQ, .string u.query, .bool u.hasF, .string u.frag], .bool bare] w (Txt12 (text12 u bare) w) := by
  obtain ⟨T, hT⟩ : ∃ T, txt10 (textK u.kind u.name.data.toList u.v4 u.v6) = T := ⟨_, rfl⟩
  obtain ⟨P, hP⟩ : ∃ P, txt10 (path12 u) = P := ⟨_, rfl⟩
  obtain ⟨N, hN⟩ : ∃ N, txt10 (dcm10 u.port.toNat) = N := ⟨_, rfl⟩
  obtain ⟨R, hR⟩ : ∃ R, text12 u bare = R := ⟨_, rfl⟩
  rw [hR]
  have HCs := Lib.hid (cells12 (w := w) (.string u.scheme) (.string u.user) (.string u.pass) (.int .i64 u.kind) (.string u.name) (.int .u32 (u.v4 : Int)) (.int .u16 (u.a0 : Int)) (.int .u16 (u.a1 : Int)) (.int .u16 (u.a2 : Int)) (.int .u16 (u.a3 : Int)) (.int .u16 (u.a4 : Int)) (.int .u16 (u.a5 : Int)) (.int .u16 (u.a6 : Int)) (.int .u16 (u.a7 : Int)) (.int .i64 u.port) (.bool false) (.slice A n c) (.bool u.hasQ) (.string u.query) (.bool u.hasF) (.string u.frag))
  have HT := Lib.hid (fun w => htext12 hw.nums hT w)
  have HN := Lib.hid (fun (h0 : 0 ≤ u.port) w => num12_at h0 hw.nums.p1 hN w)
  have HP : Hid (∀ wx, Below (w.alloc (.cells #[.string u.scheme, .string u.user, .string u.pass, .int .i64 u.kind, .string u.name, .int .u32 (u.v4 : Int), .int .u16 (u.a0 : Int), .int .u16 (u.a1 : Int), .int .u16 (u.a2 : Int), .int .u16 (u.a3 : Int), .int .u16 (u.a4 : Int), .int .u16 (u.a5 : Int), .int .u16 (u.a6 : Int), .int .u16 (u.a7 : Int), .int .i64 u.port, .bool false, .slice A n c, .bool u.hasQ, .string u.query, .bool u.hasF, .string u.frag] 29)).heap.size (w.alloc (.cells #[.string u.scheme, .string u.user, .string u.pass, .int .i64 u.kind, .string u.name, .int .u32 (u.v4 : Int), .int .u16 (u.a0 : Int), .int .u16 (u.a1 : Int), .int .u16 (u.a2 : Int), .int .u16 (u.a3 : Int), .int .u16 (u.a4 : Int), .int .u16 (u.a5 : Int), .int .u16 (u.a6 : Int), .int .u16 (u.a7 : Int), .int .i64 u.port, .bool false, .slice A n c, .bool u.hasQ, .string u.query, .bool u.hasF, .string u.frag] 29)) wx → Calls Tryd.prog 13 #[.agg #[.string u.scheme, .string u.user, .string u.pass, .int .i64 u.kind, .string u.name, .int .u32 (u.v4 : Int), .int .u16 (u.a0 : Int), .int .u16 (u.a1 : Int), .int .u16 (u.a2 : Int), .int .u16 (u.a3 : Int), .int .u16 (u.a4 : Int), .int .u16 (u.a5 : Int), .int .u16 (u.a6 : Int), .int .u16 (u.a7 : Int), .int .i64 u.port, .bool false, .slice A n c, .bool u.hasQ, .string u.query, .bool u.hasF, .string u.frag]] wx fun e w' => e = .returned (.string P) ∧ Below wx.heap.size wx w') := fun wx hb => by
    have := rpath_is hP A n c hn wx ((h.below (bel12 w _)).below hb) hw
    rw [ho] at this
    exact this
  have zT : T.size ≤ 200 := by rw [← hT, txt10_size]; exact textK_len (by have := hw.name; simpa using this) hw.nums.v4 rfl hw.nums.v6
  have zP : P.size ≤ 60000 := by rw [← hP, txt10_size]; exact path12_len hw
  have zN : N.size ≤ 19 := by rw [← hN, txt10_size]; exact dcm10_len 18 _ (by have := hw.nums.p1; omega)
  have z1 := hw.scheme; have z2 := hw.user; have z3 := hw.pass; have z5 := hw.query; have z6 := hw.frag
  have lT : T.data.toList = textK u.kind u.name.data.toList u.v4 u.v6 := by rw [← hT]; rfl
  have lP : P.data.toList = path12 u := by rw [← hP]; rfl
  have lN : N.data.toList = dcm10 u.port.toNat := by rw [← hN]; rfl
  have HR : Hid (R = u.scheme.data.toList ++ 58 :: (front12 u ++ (P.data.toList ++ (query12 u ++ frag12 u bare)))) := by show R = _; rw [← hR, lP]; rfl
  have e1 : (u.kind == 0) = true := beq_iff_eq.2 hk
  have HF : Hid (front12 u = [47, 46]) := by (show front12 u = _; unfold front12; rw [if_neg (by rw [hk]; simp)]; unfold dotted12; rw [ho, decide_eq_true (show 1 < u.path.length by omega), hp, hpe]; rfl)
  have hn50 : n ≤ 50 := by have := hw.len; omega
  have h' := h
  rw [hp] at h'
  obtain ⟨b, off, rfl, hb, hc⟩ := h'.first
  have hc1 := hc _ (bel12 w (.cells #[.string u.scheme, .string u.user, .string u.pass, .int .i64 u.kind, .string u.name, .int .u32 (u.v4 : Int), .int .u16 (u.a0 : Int), .int .u16 (u.a1 : Int), .int .u16 (u.a2 : Int), .int .u16 (u.a3 : Int), .int .u16 (u.a4 : Int), .int .u16 (u.a5 : Int), .int .u16 (u.a6 : Int), .int .u16 (u.a7 : Int), .int .i64 u.port, .bool false, .slice (some ⟨b, off, none⟩) n c, .bool u.hasQ, .string u.query, .bool u.hasF, .string u.frag] 29))
  have d1 : decide ((1 : Int) < (n : Int)) = true := decide_eq_true (by omega)
  have hpt : ((txt10 p).toList == []) = true := by rw [beq_iff_eq, ByteArray.toList_eq]; exact hpe
  have hn0 : 0 < n := by omega
  clear hc h'
  clear HN HT hpe hp
  clear hT hP hN hR lT lP lN
  clear hk ho h hw hn
  go_enter Tryd.func11, Tryd.ntmps11
  go_wp2_with (first
    | ((with_reducible refine wpl12 rfl (.tmp 2) rfl (HCs.out (w.alloc (.cells #[.string u.scheme, .string u.user, .string u.pass, .int .i64 u.kind, .string u.name, .int .u32 (u.v4 : Int), .int .u16 (u.a0 : Int), .int .u16 (u.a1 : Int), .int .u16 (u.a2 : Int), .int .u16 (u.a3 : Int), .int .u16 (u.a4 : Int), .int .u16 (u.a5 : Int), .int .u16 (u.a6 : Int), .int .u16 (u.a7 : Int), .int .i64 u.port, .bool false, .slice (some ⟨b, off, none⟩) n c, .bool u.hasQ, .string u.query, .bool u.hasF, .string u.frag] 29)) (Below.refl _ _)).1.out ?hs ?hx ?_); (case hs => rfl); (case hx => rfl))
    | ((with_reducible refine wpl12 rfl (.tmp 2) rfl s0.out ?hs ?hx ?_); (case hs => rfl); (case hx => rfl))
    | (go_at_call 20; (with_reducible refine (HT.out _).mono ?_); rintro e w1 ⟨rfl, hb⟩; have HB := Lib.hid (Below.refl w.heap.size w |>.trans (bel12 _ _ |>.trans (hb.mono (bel12 _ _).size))); (obtain ⟨s0, s14, s15, s16, s17, s18, s19, s20⟩ := HCs.out _ hb); have HBc := Lib.hid hb; clear hb)
    | (go_at_call 21; (with_reducible refine (HN.out _).mono ?_); rintro e w2 ⟨rfl, hb⟩; have HBc := Lib.hid (bn12 HBc.out hb); clear s0 s14 s15 s16 s17 s18 s19 s20; (obtain ⟨s0, s14, s15, s16, s17, s18, s19, s20⟩ := HCs.out _ HBc.out); clear hb)
    | (go_at_call 13; (with_reducible refine (HP.out _ (by first | exact HBc.out | exact Below.refl _ _)).mono ?_); rintro e w3 ⟨rfl, hb⟩; (first | have HBc := Lib.hid (bn12 HBc.out hb) | have HBc := Lib.hid hb); (try clear s0 s14 s15 s16 s17 s18 s19 s20); (obtain ⟨s0, s14, s15, s16, s17, s18, s19, s20⟩ := HCs.out _ HBc.out); clear hb))
  all_goals
    go_ret
    refine ⟨?_, bn12 (bel12 _ _) HBc.out⟩
    rw [HR.out]
    refine congrArg (fun s => Ending.returned (.string s)) (str12 ?_)
    simp only [app12, HF.out, query12, frag12, *]
    simp 

set_option maxHeartbeats 8000000 in
set_option maxRecDepth 100000 in
theorem refText12_f (u : Url12) (bare : Bool) (A : Option Addr) (n c : Nat) (hn : u.path.length = n) (w : World) (h : Segs w A u.path) (hw : Wee12 u) (hk : u.kind = 0) (ho : u.opaq = false) (p : Seg) (ps : List Seg) (hp : u.path = p :: ps) (hpe : p ≠ []) (h1 : 1 < n) :
    Calls Tryd.prog 11 #[.agg #[.string u.scheme, .string u.user, .string u.pass, .int .i64 u.kind, .string u.name, .int .u32 (u.v4 : Int), .int .u16 (u.a0 : Int), .int .u16 (u.a1 : Int), .int .u16 (u.a2 : Int), .int .u16 (u.a3 : Int), .int .u16 (u.a4 : Int), .int .u16 (u.a5 : Int), .int .u16 (u.a6 : Int), .int .u16 (u.a7 : Int), .int .i64 u.port, .bool false, .slice A n c, .bool u.hasQ, .string u.query, .bool u.hasF, .string u.frag], .bool bare] w (Txt12 (text12 u bare) w) := by
  obtain ⟨T, hT⟩ : ∃ T, txt10 (textK u.kind u.name.data.toList u.v4 u.v6) = T := ⟨_, rfl⟩
  obtain ⟨P, hP⟩ : ∃ P, txt10 (path12 u) = P := ⟨_, rfl⟩
  obtain ⟨N, hN⟩ : ∃ N, txt10 (dcm10 u.port.toNat) = N := ⟨_, rfl⟩
  obtain ⟨R, hR⟩ : ∃ R, text12 u bare = R := ⟨_, rfl⟩
  rw [hR]
  have HCs := Lib.hid (cells12 (w := w) (.string u.scheme) (.string u.user) (.string u.pass) (.int .i64 u.kind) (.string u.name) (.int .u32 (u.v4 : Int)) (.int .u16 (u.a0 : Int)) (.int .u16 (u.a1 : Int)) (.int .u16 (u.a2 : Int)) (.int .u16 (u.a3 : Int)) (.int .u16 (u.a4 : Int)) (.int .u16 (u.a5 : Int)) (.int .u16 (u.a6 : Int)) (.int .u16 (u.a7 : Int)) (.int .i64 u.port) (.bool false) (.slice A n c) (.bool u.hasQ) (.string u.query) (.bool u.hasF) (.string u.frag))
  have HT := Lib.hid (fun w => htext12 hw.nums hT w)
  have HN := Lib.hid (fun (h0 : 0 ≤ u.port) w => num12_at h0 hw.nums.p1 hN w)
  have HP : Hid (∀ wx, Below (w.alloc (.cells #[.string u.scheme, .string u.user, .string u.pass, .int .i64 u.kind, .string u.name, .int .u32 (u.v4 : Int), .int .u16 (u.a0 : Int), .int .u16 (u.a1 : Int), .int .u16 (u.a2 : Int), .int .u16 (u.a3 : Int), .int .u16 (u.a4 : Int), .int .u16 (u.a5 : Int), .int .u16 (u.a6 : Int), .int .u16 (u.a7 : Int), .int .i64 u.port, .bool false, .slice A n c, .bool u.hasQ, .string u.query, .bool u.hasF, .string u.frag] 29)).heap.size (w.alloc (.cells #[.string u.scheme, .string u.user, .string u.pass, .int .i64 u.kind, .string u.name, .int .u32 (u.v4 : Int), .int .u16 (u.a0 : Int), .int .u16 (u.a1 : Int), .int .u16 (u.a2 : Int), .int .u16 (u.a3 : Int), .int .u16 (u.a4 : Int), .int .u16 (u.a5 : Int), .int .u16 (u.a6 : Int), .int .u16 (u.a7 : Int), .int .i64 u.port, .bool false, .slice A n c, .bool u.hasQ, .string u.query, .bool u.hasF, .string u.frag] 29)) wx → Calls Tryd.prog 13 #[.agg #[.string u.scheme, .string u.user, .string u.pass, .int .i64 u.kind, .string u.name, .int .u32 (u.v4 : Int), .int .u16 (u.a0 : Int), .int .u16 (u.a1 : Int), .int .u16 (u.a2 : Int), .int .u16 (u.a3 : Int), .int .u16 (u.a4 : Int), .int .u16 (u.a5 : Int), .int .u16 (u.a6 : Int), .int .u16 (u.a7 : Int), .int .i64 u.port, .bool false, .slice A n c, .bool u.hasQ, .string u.query, .bool u.hasF, .string u.frag]] wx fun e w' => e = .returned (.string P) ∧ Below wx.heap.size wx w') := fun wx hb => by
    have := rpath_is hP A n c hn wx ((h.below (bel12 w _)).below hb) hw
    rw [ho] at this
    exact this
  have zT : T.size ≤ 200 := by rw [← hT, txt10_size]; exact textK_len (by have := hw.name; simpa using this) hw.nums.v4 rfl hw.nums.v6
  have zP : P.size ≤ 60000 := by rw [← hP, txt10_size]; exact path12_len hw
  have zN : N.size ≤ 19 := by rw [← hN, txt10_size]; exact dcm10_len 18 _ (by have := hw.nums.p1; omega)
  have z1 := hw.scheme; have z2 := hw.user; have z3 := hw.pass; have z5 := hw.query; have z6 := hw.frag
  have lT : T.data.toList = textK u.kind u.name.data.toList u.v4 u.v6 := by rw [← hT]; rfl
  have lP : P.data.toList = path12 u := by rw [← hP]; rfl
  have lN : N.data.toList = dcm10 u.port.toNat := by rw [← hN]; rfl
  have HR : Hid (R = u.scheme.data.toList ++ 58 :: (front12 u ++ (P.data.toList ++ (query12 u ++ frag12 u bare)))) := by show R = _; rw [← hR, lP]; rfl
  have e1 : (u.kind == 0) = true := beq_iff_eq.2 hk
  have HF : Hid (front12 u = []) := by (show front12 u = _; unfold front12; rw [if_neg (by rw [hk]; simp)]; unfold dotted12; rw [ho, hp]; show (if (!false && decide (1 < (p :: ps).length) && decide (p = [])) = true then _ else _) = _; rw [decide_eq_false hpe, Bool.and_false]; rfl)
  have hn50 : n ≤ 50 := by have := hw.len; omega
  have h' := h
  rw [hp] at h'
  obtain ⟨b, off, rfl, hb, hc⟩ := h'.first
  have hc1 := hc _ (bel12 w (.cells #[.string u.scheme, .string u.user, .string u.pass, .int .i64 u.kind, .string u.name, .int .u32 (u.v4 : Int), .int .u16 (u.a0 : Int), .int .u16 (u.a1 : Int), .int .u16 (u.a2 : Int), .int .u16 (u.a3 : Int), .int .u16 (u.a4 : Int), .int .u16 (u.a5 : Int), .int .u16 (u.a6 : Int), .int .u16 (u.a7 : Int), .int .i64 u.port, .bool false, .slice (some ⟨b, off, none⟩) n c, .bool u.hasQ, .string u.query, .bool u.hasF, .string u.frag] 29))
  have d1 : decide ((1 : Int) < (n : Int)) = true := decide_eq_true (by omega)
  have hpt : ((txt10 p).toList == []) = false := by rw [beq_eq_false_iff_ne, ByteArray.toList_eq]; exact hpe
  have hn0 : 0 < n := by omega
  clear hc h'
  clear HN HT hpe hp
  clear hT hP hN hR lT lP lN
  clear hk ho h hw hn
  go_enter Tryd.func11, Tryd.ntmps11
  go_wp2_with (first
    | ((with_reducible refine wpl12 rfl (.tmp 2) rfl (HCs.out (w.alloc (.cells #[.string u.scheme, .string u.user, .string u.pass, .int .i64 u.kind, .string u.name, .int .u32 (u.v4 : Int), .int .u16 (u.a0 : Int), .int .u16 (u.a1 : Int), .int .u16 (u.a2 : Int), .int .u16 (u.a3 : Int), .int .u16 (u.a4 : Int), .int .u16 (u.a5 : Int), .int .u16 (u.a6 : Int), .int .u16 (u.a7 : Int), .int .i64 u.port, .bool false, .slice (some ⟨b, off, none⟩) n c, .bool u.hasQ, .string u.query, .bool u.hasF, .string u.frag] 29)) (Below.refl _ _)).1.out ?hs ?hx ?_); (case hs => rfl); (case hx => rfl))
    | ((with_reducible refine wpl12 rfl (.tmp 2) rfl s0.out ?hs ?hx ?_); (case hs => rfl); (case hx => rfl))
    | (go_at_call 20; (with_reducible refine (HT.out _).mono ?_); rintro e w1 ⟨rfl, hb⟩; have HB := Lib.hid (Below.refl w.heap.size w |>.trans (bel12 _ _ |>.trans (hb.mono (bel12 _ _).size))); (obtain ⟨s0, s14, s15, s16, s17, s18, s19, s20⟩ := HCs.out _ hb); have HBc := Lib.hid hb; clear hb)
    | (go_at_call 21; (with_reducible refine (HN.out _).mono ?_); rintro e w2 ⟨rfl, hb⟩; have HBc := Lib.hid (bn12 HBc.out hb); clear s0 s14 s15 s16 s17 s18 s19 s20; (obtain ⟨s0, s14, s15, s16, s17, s18, s19, s20⟩ := HCs.out _ HBc.out); clear hb)
    | (go_at_call 13; (with_reducible refine (HP.out _ (by first | exact HBc.out | exact Below.refl _ _)).mono ?_); rintro e w3 ⟨rfl, hb⟩; (first | have HBc := Lib.hid (bn12 HBc.out hb) | have HBc := Lib.hid hb); (try clear s0 s14 s15 s16 s17 s18 s19 s20); (obtain ⟨s0, s14, s15, s16, s17, s18, s19, s20⟩ := HCs.out _ HBc.out); clear hb))
  all_goals
    go_ret
    refine ⟨?_, bn12 (bel12 _ _) HBc.out⟩
    rw [HR.out]
    refine congrArg (fun s => Ending.returned (.string s)) (str12 ?_)
    simp only [app12, HF.out, query12, frag12, *]
    simp 
end Go.Proofs.YtliklhldlofnjaaDoor

/-
  The document's Text of layer 12 (written by mkrec.py).
-/
namespace Go.Proofs.YtliklhldlofnjaaDoor
open Go.RowKit

theorem refText12_any (u : Url12) (bare : Bool) (A : Option Addr) (n c : Nat) (hn : u.path.length = n) (w : World) (h : Segs w A u.path) (hw : Wee12 u) :
    Calls Tryd.prog 11 #[.agg #[.string u.scheme, .string u.user, .string u.pass, .int .i64 u.kind, .string u.name, .int .u32 (u.v4 : Int), .int .u16 (u.a0 : Int), .int .u16 (u.a1 : Int), .int .u16 (u.a2 : Int), .int .u16 (u.a3 : Int), .int .u16 (u.a4 : Int), .int .u16 (u.a5 : Int), .int .u16 (u.a6 : Int), .int .u16 (u.a7 : Int), .int .i64 u.port, .bool u.opaq, .slice A n c, .bool u.hasQ, .string u.query, .bool u.hasF, .string u.frag], .bool bare] w (Txt12 (text12 u bare) w) := by
  by_cases hk : u.kind = 0
  · cases ho : u.opaq with
    | true => exact refText12_o u bare A n c hn w h hw hk ho
    | false =>
      by_cases h1 : n ≤ 1
      · exact refText12_s u bare A n c hn w h hw hk ho h1
      · rcases hp : u.path with _ | ⟨p, ps⟩
        · rw [hp] at hn; simp at hn; omega
        · by_cases hpe : p = []
          · exact refText12_e u bare A n c hn w h hw hk ho p ps hp hpe (by omega)
          · exact refText12_f u bare A n c hn w h hw hk ho p ps hp hpe (by omega)
  · rcases emp_or u.user with ⟨hu, hu2⟩ | ⟨hu, hu2⟩ <;> rcases emp_or u.pass with ⟨hp, hp2⟩ | ⟨hp, hp2⟩ <;> by_cases h0 : 0 ≤ u.port
    · exact refText12_Any u bare A n c hn w h hw hk hu hu2 hp hp2 h0
    · exact refText12_Ann u bare A n c hn w h hw hk hu hu2 hp hp2 h0
    · exact refText12_Ayy u bare A n c hn w h hw hk hu hu2 hp hp2 h0
    · exact refText12_Ayn u bare A n c hn w h hw hk hu hu2 hp hp2 h0
    · exact refText12_Bny u bare A n c hn w h hw hk hu hu2 hp hp2 h0
    · exact refText12_Bnn u bare A n c hn w h hw hk hu hu2 hp hp2 h0
    · exact refText12_Byy u bare A n c hn w h hw hk hu hu2 hp hp2 h0
    · exact refText12_Byn u bare A n c hn w h hw hk hu hu2 hp hp2 h0
theorem rtext12_is {u : Url12} {bare : Bool} {t : ByteArray} (ht : txt10 (text12 u bare) = t) (A : Option Addr) (n c : Nat) (hn : u.path.length = n) (w : World) (h : Segs w A u.path) (hw : Wee12 u) :
    Calls Tryd.prog 11 #[.agg #[.string u.scheme, .string u.user, .string u.pass, .int .i64 u.kind, .string u.name, .int .u32 (u.v4 : Int), .int .u16 (u.a0 : Int), .int .u16 (u.a1 : Int), .int .u16 (u.a2 : Int), .int .u16 (u.a3 : Int), .int .u16 (u.a4 : Int), .int .u16 (u.a5 : Int), .int .u16 (u.a6 : Int), .int .u16 (u.a7 : Int), .int .i64 u.port, .bool u.opaq, .slice A n c, .bool u.hasQ, .string u.query, .bool u.hasF, .string u.frag], .bool bare] w fun e w' => e = .returned (.string t) ∧ Below w.heap.size w w' := ht ▸ refText12_any u bare A n c hn w h hw
end Go.Proofs.YtliklhldlofnjaaDoor

/-
  What the program's New, Text, Path and Same of layer 12 are held against: their contracts, as hypotheses (written by mkrec.py).
-/
namespace Go.Proofs.YtliklhldlofnjaaDoor
open Go.RowKit

def Yes12 (w : World) (e : Ending) (w' : World) : Prop := e = .returned (.bool true) ∧ Below w.heap.size w w'
/-- A URL as a value in a world. -/
structure At12 (w : World) (u : Url12) (A : Option Addr) (n c : Nat) : Prop where
  segs : Segs w A u.path
  len : u.path.length = n
  cap : n ≤ c
  nil : A = none → c = 0
  wee : Wee12 u
theorem At12.below {w w' : World} {u : Url12} {A : Option Addr} {n c : Nat} (h : At12 w u A n c) (hb : Below w.heap.size w w') : At12 w' u A n c := ⟨h.segs.below hb, h.len, h.cap, h.nil, h.wee⟩
/-- The program's functions do as the document says, in every world behind w0. -/
structure RecC (w0 : World) : Prop where
  new : ∀ (s : ByteArray) (w : World), Below w0.heap.size w0 w → s.size ≤ 200 → Calls Tryd.prog 16 #[.string s] w fun e w' => e = .returned (.agg #[.string s, .string ⟨#[]⟩, .string ⟨#[]⟩, .int .i64 0, .string ⟨#[]⟩, .int .u32 0, .int .u16 0, .int .u16 0, .int .u16 0, .int .u16 0, .int .u16 0, .int .u16 0, .int .u16 0, .int .u16 0, .int .i64 (-1), .bool false, .slice none 0 0, .bool false, .string ⟨#[]⟩, .bool false, .string ⟨#[]⟩]) ∧ Below w.heap.size w w'
  text : ∀ (u : Url12) (bare : Bool) (A : Option Addr) (n c : Nat) (w : World), Below w0.heap.size w0 w → At12 w u A n c → Calls Tryd.prog 10 #[.agg #[.string u.scheme, .string u.user, .string u.pass, .int .i64 u.kind, .string u.name, .int .u32 (u.v4 : Int), .int .u16 (u.a0 : Int), .int .u16 (u.a1 : Int), .int .u16 (u.a2 : Int), .int .u16 (u.a3 : Int), .int .u16 (u.a4 : Int), .int .u16 (u.a5 : Int), .int .u16 (u.a6 : Int), .int .u16 (u.a7 : Int), .int .i64 u.port, .bool u.opaq, .slice A n c, .bool u.hasQ, .string u.query, .bool u.hasF, .string u.frag], .bool bare] w (Txt12 (text12 u bare) w)
  path : ∀ (u : Url12) (A : Option Addr) (n c : Nat) (w : World), Below w0.heap.size w0 w → At12 w u A n c → Calls Tryd.prog 12 #[.agg #[.string u.scheme, .string u.user, .string u.pass, .int .i64 u.kind, .string u.name, .int .u32 (u.v4 : Int), .int .u16 (u.a0 : Int), .int .u16 (u.a1 : Int), .int .u16 (u.a2 : Int), .int .u16 (u.a3 : Int), .int .u16 (u.a4 : Int), .int .u16 (u.a5 : Int), .int .u16 (u.a6 : Int), .int .u16 (u.a7 : Int), .int .i64 u.port, .bool u.opaq, .slice A n c, .bool u.hasQ, .string u.query, .bool u.hasF, .string u.frag]] w (Txt12 (path12 u) w)
  same : ∀ (u v : Url12) (A B : Option Addr) (n m c d : Nat) (w : World), Below w0.heap.size w0 w → At12 w u A n c → At12 w v B m d → Calls Tryd.prog 14 #[.agg #[.string u.scheme, .string u.user, .string u.pass, .int .i64 u.kind, .string u.name, .int .u32 (u.v4 : Int), .int .u16 (u.a0 : Int), .int .u16 (u.a1 : Int), .int .u16 (u.a2 : Int), .int .u16 (u.a3 : Int), .int .u16 (u.a4 : Int), .int .u16 (u.a5 : Int), .int .u16 (u.a6 : Int), .int .u16 (u.a7 : Int), .int .i64 u.port, .bool u.opaq, .slice A n c, .bool u.hasQ, .string u.query, .bool u.hasF, .string u.frag], .agg #[.string v.scheme, .string v.user, .string v.pass, .int .i64 v.kind, .string v.name, .int .u32 (v.v4 : Int), .int .u16 (v.a0 : Int), .int .u16 (v.a1 : Int), .int .u16 (v.a2 : Int), .int .u16 (v.a3 : Int), .int .u16 (v.a4 : Int), .int .u16 (v.a5 : Int), .int .u16 (v.a6 : Int), .int .u16 (v.a7 : Int), .int .i64 v.port, .bool v.opaq, .slice B m d, .bool v.hasQ, .string v.query, .bool v.hasF, .string v.frag]] w fun e w' => e = .returned (.bool (same12 u v)) ∧ Below w.heap.size w w'
theorem RecC.behind {w0 w : World} (C : RecC w0) (h : Below w0.heap.size w0 w) : RecC w :=
  ⟨fun s x hx => C.new s x (bn12 h hx), fun u b A n c x hx => C.text u b A n c x (bn12 h hx), fun u A n c x hx => C.path u A n c x (bn12 h hx), fun u v A B n m c d x hx => C.same u v A B n m c d x (bn12 h hx)⟩
theorem ctext12 {w0 : World} (C : RecC w0) {u : Url12} {bare : Bool} {t : ByteArray} (ht : txt10 (text12 u bare) = t) {A : Option Addr} {n c : Nat} (w : World) (hb : Below w0.heap.size w0 w) (h : At12 w u A n c) :
    Calls Tryd.prog 10 #[.agg #[.string u.scheme, .string u.user, .string u.pass, .int .i64 u.kind, .string u.name, .int .u32 (u.v4 : Int), .int .u16 (u.a0 : Int), .int .u16 (u.a1 : Int), .int .u16 (u.a2 : Int), .int .u16 (u.a3 : Int), .int .u16 (u.a4 : Int), .int .u16 (u.a5 : Int), .int .u16 (u.a6 : Int), .int .u16 (u.a7 : Int), .int .i64 u.port, .bool u.opaq, .slice A n c, .bool u.hasQ, .string u.query, .bool u.hasF, .string u.frag], .bool bare] w fun e w' => e = .returned (.string t) ∧ Below w.heap.size w w' := ht ▸ C.text u bare A n c w hb h
theorem cpath12 {w0 : World} (C : RecC w0) {u : Url12} {t : ByteArray} (ht : txt10 (path12 u) = t) {A : Option Addr} {n c : Nat} (w : World) (hb : Below w0.heap.size w0 w) (h : At12 w u A n c) :
    Calls Tryd.prog 12 #[.agg #[.string u.scheme, .string u.user, .string u.pass, .int .i64 u.kind, .string u.name, .int .u32 (u.v4 : Int), .int .u16 (u.a0 : Int), .int .u16 (u.a1 : Int), .int .u16 (u.a2 : Int), .int .u16 (u.a3 : Int), .int .u16 (u.a4 : Int), .int .u16 (u.a5 : Int), .int .u16 (u.a6 : Int), .int .u16 (u.a7 : Int), .int .i64 u.port, .bool u.opaq, .slice A n c, .bool u.hasQ, .string u.query, .bool u.hasF, .string u.frag]] w fun e w' => e = .returned (.string t) ∧ Below w.heap.size w w' := ht ▸ C.path u A n c w hb h
theorem csame12 {w0 : World} (C : RecC w0) {u v : Url12} {b : Bool} (hs : same12 u v = b) {A B : Option Addr} {n m c d : Nat} (w : World) (hb : Below w0.heap.size w0 w) (h : At12 w u A n c) (g : At12 w v B m d) :
    Calls Tryd.prog 14 #[.agg #[.string u.scheme, .string u.user, .string u.pass, .int .i64 u.kind, .string u.name, .int .u32 (u.v4 : Int), .int .u16 (u.a0 : Int), .int .u16 (u.a1 : Int), .int .u16 (u.a2 : Int), .int .u16 (u.a3 : Int), .int .u16 (u.a4 : Int), .int .u16 (u.a5 : Int), .int .u16 (u.a6 : Int), .int .u16 (u.a7 : Int), .int .i64 u.port, .bool u.opaq, .slice A n c, .bool u.hasQ, .string u.query, .bool u.hasF, .string u.frag], .agg #[.string v.scheme, .string v.user, .string v.pass, .int .i64 v.kind, .string v.name, .int .u32 (v.v4 : Int), .int .u16 (v.a0 : Int), .int .u16 (v.a1 : Int), .int .u16 (v.a2 : Int), .int .u16 (v.a3 : Int), .int .u16 (v.a4 : Int), .int .u16 (v.a5 : Int), .int .u16 (v.a6 : Int), .int .u16 (v.a7 : Int), .int .i64 v.port, .bool v.opaq, .slice B m d, .bool v.hasQ, .string v.query, .bool v.hasF, .string v.frag]] w fun e w' => e = .returned (.bool b) ∧ Below w.heap.size w w' := hs ▸ C.same u v A B n m c d w hb h g
end Go.Proofs.YtliklhldlofnjaaDoor

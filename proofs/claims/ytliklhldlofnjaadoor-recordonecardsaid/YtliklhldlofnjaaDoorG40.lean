/-
  In this text, one behind the other: RecLawT, RecOneM, RecOne0, RecOne1, RecOne2, RecOne3, RecOne4, RecLawO.
-/
import Derived.BigQuiet
import Derived.Deep.AppendLies
import Derived.Deep.DrawnRows
import Derived.Deep.Light
import Derived.Deep.LoopGhost
import Derived.Deep.QuietTactic
import Derived.Deep.RegionHeld3
import Derived.Deep.RegionWith
import Derived.Deep.WholeRow
import Derived.DeepKeys
import Derived.IntWalk
import Derived.LaidEql
import Derived.Laws.AppendOwnNone
import Derived.Laws.BitsLemmas
import Derived.Laws.Cover4
import Derived.Laws.Externs
import Derived.Laws.RangeString
import Derived.Laws.Rows
import Derived.Laws.Runes
import Derived.Laws.Tables
import Derived.Lib.Hide
import Derived.Maps.AppendAt
import Derived.RowKitTokens
import Derived.Shelf.Strings.Builder1
import Derived.Stop.Asserts
import Derived.WalkKit
import Derived.WalkLawsBesides
import Derived.WalkMore
import Derived.WalkSpells
import Derived.Test.YtliklhldlofnjaaDoorRows
import Derived.Test.YtliklhldlofnjaaDoorG32
import Derived.Test.YtliklhldlofnjaaDoorG11
import Derived.Test.YtliklhldlofnjaaDoorG25
/-
  The law RecordTexts of layer 12, over the program's contracts (written by mkrec.py).
-/
namespace Go.Proofs.YtliklhldlofnjaaDoor
open Go.RowKit
attribute [local go_sem ↓] foldL12 foldS12
attribute [local go_sem] loadU_run viaRow_cells storeU_run viaStore_cells setRow_here12 heap_here12 heap_old12 heap_put12 put12_cells heap_other12 blk_drew12

theorem bnd12 {w a b : World} (h : Below w.heap.size w a) (k : Below a.drew.heap.size a.drew b) : Below w.heap.size w b := bn12 (h.drew) k
end Go.Proofs.YtliklhldlofnjaaDoor

/-
  What the law RecordOne of layer 12 turns (written by mkrec.py).
-/
namespace Go.Proofs.YtliklhldlofnjaaDoor
open Go.RowKit

theorem wrap_rng12 (n : Int) : -9223372036854775808 ≤ IntKind.i64.wrap n ∧ IntKind.i64.wrap n ≤ 9223372036854775807 := by
  simp only [IntKind.wrap, IntKind.bits, IntKind.signed]
  simp
  omega
def xor12 (n : Int) : Int := IntKind.i64.wrap ((BitVec.ofInt 64 n ^^^ BitVec.ofInt 64 1).toNat : Int)
theorem xor_rng12 (n : Int) : -9223372036854775808 ≤ xor12 n ∧ xor12 n ≤ 9223372036854775807 := wrap_rng12 _
theorem xor_ne12 {n : Int} (h : n = xor12 n) : False := by
  unfold xor12 at h
  have key : ∀ m : Nat, m < 18446744073709551616 → IntKind.i64.wrap (m : Int) % 18446744073709551616 = (m : Int) := by
    intro m hm
    simp only [IntKind.wrap, IntKind.bits, IntKind.signed]
    simp
    split <;> omega
  have e := key _ (BitVec.ofInt 64 n ^^^ BitVec.ofInt 64 1).isLt
  rw [← h] at e
  have e2 : (BitVec.ofInt 64 n).toNat = (BitVec.ofInt 64 n ^^^ BitVec.ofInt 64 1).toNat := by
    rw [BitVec.toNat_ofInt]
    show (n % 18446744073709551616).toNat = _
    omega
  have e3 := BitVec.eq_of_toNat_eq e2
  have e4 := congrArg (BitVec.ofInt 64 n ^^^ ·) e3
  simp only [← BitVec.xor_assoc, BitVec.xor_self, BitVec.zero_xor] at e4
  exact absurd e4 (by decide)
theorem wrap_ne12 {n : Int} (h0 : -9223372036854775808 ≤ n) (h1 : n ≤ 9223372036854775807) (h : n = IntKind.i64.wrap (n + 1)) : False := by
  simp only [IntKind.wrap, IntKind.bits, IntKind.signed] at h
  simp at h
  omega
theorem wrap64_rng12 (n : Int) : -9223372036854775808 ≤ wrap64 n ∧ wrap64 n ≤ 9223372036854775807 := (IntWalk.i64_left n) ▸ wrap_rng12 n
theorem app_ne12 {s : ByteArray} (h : s = s ++ ⟨#[120]⟩) : False := by
  have := congrArg ByteArray.size h
  rw [ByteArray.size_append] at this
  have e : (ByteArray.mk #[120]).size = 1 := rfl
  omega
theorem path_ne12 {l : List Seg} (h : l = l ++ [[]]) : False := by
  have := congrArg List.length h
  simp at this
theorem blk_cell12 {w : World} {g : Nat} {cs : Array Value} {t : TypeId} (h : blk12 w g = some (.cells cs t (0, 0))) (j : Nat) {x : Value} (hx : cs[j]? = some x) : w.cell? ⟨g, j, none⟩ = some x ∧ w.frozen? ⟨g, j, none⟩ = false := by
  unfold blk12 at h
  constructor
  · simp [World.cell?, h, hx]
  · simp [World.frozen?, h]
theorem rowS_at {X : World} {B : Nat} (h : B = X.heap.size) : RowS B (X.alloc (.cells #[] 9)) (.slice (some ⟨B, 0, none⟩) 0 0) [] := h ▸ rowS_new X
theorem rowS_segs {B : Nat} {w : World} {A : Option Addr} {n c : Nat} {ps : List Seg} (h : RowS B w (.slice A n c) ps) : Segs w A ps := by
  obtain ⟨A', c', e, _, hs⟩ := h.segs
  injection e with e1 e2 e3
  rw [e1]
  exact hs
theorem rowS_set {B : Nat} {w : World} {v : Value} {ps : List Seg} (h : RowS B w v ps) {p : Addr} (hp : p.block < B) (x : Value) : RowS B (w.setCell p x) v ps := ownsRow_setCell_below h hp x
end Go.Proofs.YtliklhldlofnjaaDoor

/-
  The law RecordOne of layer 12, over the program's contracts (written by mkrec.py).
-/
namespace Go.Proofs.YtliklhldlofnjaaDoor
open Go.RowKit
attribute [local go_sem ↓] foldL12 foldS12
attribute [local go_sem] loadU_run viaRow_cells storeU_run viaStore_cells setRow_here12 heap_here12 heap_old12 heap_put12 put12_cells heap_other12 blk_drew12


theorem one12_0 {u : Url12} (hu : Nums12 u) : same12 u ({ u with scheme := u.scheme ++ ⟨#[120]⟩ } : Url12) = false := decide_eq_false fun h => (fun h => app_ne12 h) (h.1)
theorem wee12_0 {u : Url12} (h : Wee12 u) (hf : few12 u = true) : Wee12 ({ u with scheme := u.scheme ++ ⟨#[120]⟩ } : Url12) := by
  have hF := of_decide_eq_true hf
  obtain ⟨f1, f2, f3, f4, f5, f6, f7, f8⟩ := hF
  exact ⟨⟨h.nums.k0, h.nums.k1, h.nums.p0, h.nums.p1, h.nums.v4, h.nums.v6⟩, (h.len), (h.segs), (by show (_ ++ _ : ByteArray).size ≤ 200; rw [ByteArray.size_append]; show _ + 1 ≤ 200; omega), (h.user), (h.pass), (h.name), (h.query), (h.frag)⟩
set_option maxHeartbeats 8000000 in
set_option maxRecDepth 100000 in
theorem law_one12_0 (u : Url12) (A : Option Addr) (n c : Nat) (k : Int) (w : World) (hs : Segs w A u.path) (hn : u.path.length = n) (hl : n ≤ maxLen) (hc : n ≤ c ∧ (A = none → c = 0)) (hf : Fits12 u) (hu : Nums12 u) (k0 : 0 ≤ k) (k1 : k ≤ 255) (C : RecC w) (hfew : few12 u = true) (hk : k % 8 = 0) :
    Calls Tryd.prog 5 #[.agg #[.string u.scheme, .string u.user, .string u.pass, .int .i64 u.kind, .string u.name, .int .u32 (u.v4 : Int), .int .u16 (u.a0 : Int), .int .u16 (u.a1 : Int), .int .u16 (u.a2 : Int), .int .u16 (u.a3 : Int), .int .u16 (u.a4 : Int), .int .u16 (u.a5 : Int), .int .u16 (u.a6 : Int), .int .u16 (u.a7 : Int), .int .i64 u.port, .bool u.opaq, .slice A n c, .bool u.hasQ, .string u.query, .bool u.hasF, .string u.frag], .int .u8 k] w (Yes12 w) := by
  have HC := Lib.hid C
  clear C
  obtain ⟨W, hW⟩ : ∃ W, (w.alloc (.cells #[.string u.scheme, .string u.user, .string u.pass, .int .i64 u.kind, .string u.name, .int .u32 (u.v4 : Int), .int .u16 (u.a0 : Int), .int .u16 (u.a1 : Int), .int .u16 (u.a2 : Int), .int .u16 (u.a3 : Int), .int .u16 (u.a4 : Int), .int .u16 (u.a5 : Int), .int .u16 (u.a6 : Int), .int .u16 (u.a7 : Int), .int .i64 u.port, .bool u.opaq, .slice A n c, .bool u.hasQ, .string u.query, .bool u.hasF, .string u.frag] 29)) = W := ⟨_, rfl⟩
  have HW : Hid (Below w.heap.size w W) := by show Below w.heap.size w W; rw [← hW]; exact bel12 _ _
  have HCs : Hid (∀ wx, Below W.heap.size W wx → blk12 wx w.heap.size = some (.cells #[.string u.scheme, .string u.user, .string u.pass, .int .i64 u.kind, .string u.name, .int .u32 (u.v4 : Int), .int .u16 (u.a0 : Int), .int .u16 (u.a1 : Int), .int .u16 (u.a2 : Int), .int .u16 (u.a3 : Int), .int .u16 (u.a4 : Int), .int .u16 (u.a5 : Int), .int .u16 (u.a6 : Int), .int .u16 (u.a7 : Int), .int .i64 u.port, .bool u.opaq, .slice A n c, .bool u.hasQ, .string u.query, .bool u.hasF, .string u.frag] 29 (0, 0))) := by
    show ∀ wx, Below W.heap.size W wx → _
    subst hW
    exact fun wx hb => ((cells12 (.string u.scheme) (.string u.user) (.string u.pass) (.int .i64 u.kind) (.string u.name) (.int .u32 (u.v4 : Int)) (.int .u16 (u.a0 : Int)) (.int .u16 (u.a1 : Int)) (.int .u16 (u.a2 : Int)) (.int .u16 (u.a3 : Int)) (.int .u16 (u.a4 : Int)) (.int .u16 (u.a5 : Int)) (.int .u16 (u.a6 : Int)) (.int .u16 (u.a7 : Int)) (.int .i64 u.port) (.bool u.opaq) (.slice A n c) (.bool u.hasQ) (.string u.query) (.bool u.hasF) (.string u.frag)) wx hb).1.out
  have HA : Hid (Calls Tryd.prog 8 #[] W (Yes12 W)) := awake12 (HC.out.behind HW.out)
  have HF := Lib.hid (fun wx (hb : Below W.heap.size W wx) => rfew_is hfew A n c hn hl wx (hs.below (bn12 HW.out hb)) hf)
  obtain ⟨g, hg⟩ : ∃ g, w.heap.size = g := ⟨_, rfl⟩
  have hgW : g < W.heap.size := by rw [← hW, ← hg]; simp
  have hwee := few12_wee hu hfew
  have HWee := Lib.hid hwee
  have hwee2 := wee12_0 hwee hfew
  have HSg := Lib.hid (fun wx (hb : Below W.heap.size W wx) => hs.below (bn12 HW.out hb))
  have HN := Lib.hid (And.intro hn hc.2)
  have hn50 : n ≤ 50 := by have := hwee.len; omega
  have HAt : Hid (∀ wx, Below W.heap.size W wx → At12 wx u A n c) := fun wx hb => ⟨hs.below (bn12 HW.out hb), hn, hc.1, hc.2, hwee⟩
  obtain ⟨t, ht⟩ : ∃ t, txt10 (text12 u false) = t := ⟨_, rfl⟩
  have H1 := Lib.hid (fun wx hb A8 c8 (ha : At12 wx u A n c) (he : At12 wx u A8 n c8) => csame12 HC.out (same12_self u) wx hb ha he)
  have H2 := Lib.hid (fun wx hb (ha : At12 wx u A n c) => ctext12 HC.out ht wx hb ha)
  have H3 := Lib.hid (fun wx hb A8 c8 (ha : At12 wx u A8 n c8) => ctext12 HC.out ht wx hb ha)
  have H4 := Lib.hid (fun wx hb A8 m8 c8 (ha : At12 wx u A n c) (he : At12 wx ({ u with scheme := u.scheme ++ ⟨#[120]⟩ } : Url12) A8 m8 c8) => csame12 HC.out (one12_0 hu) wx hb ha he)
  rw [hg] at HCs
  have HgW := Lib.hid hgW
  have HW2 := Lib.hid hwee2
  have hk2 : k.tmod 8 = 0 := by rw [Int.tmod_eq_emod_of_nonneg k0]; exact hk
  have z1 := hwee.scheme; have z2 := hwee.user; have z3 := hwee.pass
  clear ht hfew hs hn hl hc hf hu hwee hgW hwee2
  go_enter Tryd.func5, Tryd.ntmps5
  go_wp2_with (first
    | (go_at_call 8; (try rw [hW]); refine HA.out.mono ?_; rintro e w1 ⟨rfl, hb⟩; have HBc := Lib.hid hb; (try rw [hg]); have s0 := HCs.out _ hb; clear hb)
    | (go_at_call 9; (with_reducible refine (HF.out _ HBc.out).mono ?_); rintro e w2 ⟨rfl, hb⟩; have HBc := Lib.hid (bn12 HBc.out hb); clear s0; have s0 := HCs.out _ HBc.out; have hlt := Nat.lt_of_lt_of_le HgW.out HBc.out.size; have q6 := (blk_cell12 s0 16 rfl).1; have hlW := Lib.hid HBc.out.size; clear hb)
    | (at_builtin
       refine append_segs rfl (.tmp 14) (.tmp 16) rfl (w2.heap.size + 1) _ [] A n c u.path rfl rfl (rowS_at (by simp only [World.size_alloc])) (HSg.out _ (bn12 HBc.out (bn12 (bel12 _ _) (bel12 _ _)))) HN.out.1.symm HN.out.2 (by have := HN.out.1; simp; omega) (by simp only [World.size_alloc]; omega) ?_
       intro v3 w3 hr3 hb3
       have hr4 := rowS_set hr3 (p := ⟨w2.heap.size, 16, none⟩) (Nat.lt_succ_self _) v3
       obtain ⟨A8, c8, hv8, hcc8, hs8⟩ := hr4.segs
       rw [List.nil_append] at hr4
       rw [List.nil_append, HN.out.1] at hv8 hcc8
       rw [List.nil_append] at hs8
       subst hv8
       have hB3 : Below (w2.heap.size + 1) ((w2.alloc (.cells #[.string u.scheme, .string u.user, .string u.pass, .int .i64 u.kind, .string u.name, .int .u32 (u.v4 : Int), .int .u16 (u.a0 : Int), .int .u16 (u.a1 : Int), .int .u16 (u.a2 : Int), .int .u16 (u.a3 : Int), .int .u16 (u.a4 : Int), .int .u16 (u.a5 : Int), .int .u16 (u.a6 : Int), .int .u16 (u.a7 : Int), .int .i64 u.port, .bool u.opaq, .slice A n c, .bool u.hasQ, .string u.query, .bool u.hasF, .string u.frag] 29)).alloc (.cells #[] 9)) w3 := hb3
       have hX : Below w2.heap.size w2 w3 := (bn12 (bel12 w2 (.cells #[.string u.scheme, .string u.user, .string u.pass, .int .i64 u.kind, .string u.name, .int .u32 (u.v4 : Int), .int .u16 (u.a0 : Int), .int .u16 (u.a1 : Int), .int .u16 (u.a2 : Int), .int .u16 (u.a3 : Int), .int .u16 (u.a4 : Int), .int .u16 (u.a5 : Int), .int .u16 (u.a6 : Int), .int .u16 (u.a7 : Int), .int .i64 u.port, .bool u.opaq, .slice A n c, .bool u.hasQ, .string u.query, .bool u.hasF, .string u.frag] 29)) (bel12 _ (.cells #[] 9))).trans (hB3.mono (by omega))
       have hg1 : blk12 w3 w2.heap.size = some (.cells #[.string u.scheme, .string u.user, .string u.pass, .int .i64 u.kind, .string u.name, .int .u32 (u.v4 : Int), .int .u16 (u.a0 : Int), .int .u16 (u.a1 : Int), .int .u16 (u.a2 : Int), .int .u16 (u.a3 : Int), .int .u16 (u.a4 : Int), .int .u16 (u.a5 : Int), .int .u16 (u.a6 : Int), .int .u16 (u.a7 : Int), .int .i64 u.port, .bool u.opaq, .slice A n c, .bool u.hasQ, .string u.query, .bool u.hasF, .string u.frag] 29 (0, 0)) := (hB3.block w2.heap.size (by omega)).trans ((heap_old12 _ _ _ (by simp)).trans (heap_here12 _ _ _ rfl))
       have hY : Hid (Below W.heap.size W (w3.setCell ⟨w2.heap.size, 16, none⟩ (.slice A8 n c8))) := (bn12 HBc.out hX).setCell (by simpa using HBc.out.size) _
       have hU : blk12 (w3.setCell ⟨w2.heap.size, 16, none⟩ (.slice A8 n c8)) g = some (.cells #[.string u.scheme, .string u.user, .string u.pass, .int .i64 u.kind, .string u.name, .int .u32 (u.v4 : Int), .int .u16 (u.a0 : Int), .int .u16 (u.a1 : Int), .int .u16 (u.a2 : Int), .int .u16 (u.a3 : Int), .int .u16 (u.a4 : Int), .int .u16 (u.a5 : Int), .int .u16 (u.a6 : Int), .int .u16 (u.a7 : Int), .int .i64 u.port, .bool u.opaq, .slice A n c, .bool u.hasQ, .string u.query, .bool u.hasF, .string u.frag] 29 (0, 0)) := (heap_other12 _ _ _ _ _ (Nat.ne_of_gt hlt)).trans (HCs.out _ (bn12 HBc.out hX))
       have hV : blk12 (w3.setCell ⟨w2.heap.size, 16, none⟩ (.slice A8 n c8)) w2.heap.size = some (.cells #[.string u.scheme, .string u.user, .string u.pass, .int .i64 u.kind, .string u.name, .int .u32 (u.v4 : Int), .int .u16 (u.a0 : Int), .int .u16 (u.a1 : Int), .int .u16 (u.a2 : Int), .int .u16 (u.a3 : Int), .int .u16 (u.a4 : Int), .int .u16 (u.a5 : Int), .int .u16 (u.a6 : Int), .int .u16 (u.a7 : Int), .int .i64 u.port, .bool u.opaq, .slice A8 n c8, .bool u.hasQ, .string u.query, .bool u.hasF, .string u.frag] 29 (0, 0)) := (heap_put12 _ _ _ _).trans (by rw [hg1]; rfl)
       have HC2 : Hid (∀ wx, Below ((w3.setCell ⟨w2.heap.size, 16, none⟩ (.slice A8 n c8))).heap.size (w3.setCell ⟨w2.heap.size, 16, none⟩ (.slice A8 n c8)) wx → blk12 wx g = some (.cells #[.string u.scheme, .string u.user, .string u.pass, .int .i64 u.kind, .string u.name, .int .u32 (u.v4 : Int), .int .u16 (u.a0 : Int), .int .u16 (u.a1 : Int), .int .u16 (u.a2 : Int), .int .u16 (u.a3 : Int), .int .u16 (u.a4 : Int), .int .u16 (u.a5 : Int), .int .u16 (u.a6 : Int), .int .u16 (u.a7 : Int), .int .i64 u.port, .bool u.opaq, .slice A n c, .bool u.hasQ, .string u.query, .bool u.hasF, .string u.frag] 29 (0, 0)) ∧ blk12 wx w2.heap.size = some (.cells #[.string u.scheme, .string u.user, .string u.pass, .int .i64 u.kind, .string u.name, .int .u32 (u.v4 : Int), .int .u16 (u.a0 : Int), .int .u16 (u.a1 : Int), .int .u16 (u.a2 : Int), .int .u16 (u.a3 : Int), .int .u16 (u.a4 : Int), .int .u16 (u.a5 : Int), .int .u16 (u.a6 : Int), .int .u16 (u.a7 : Int), .int .i64 u.port, .bool u.opaq, .slice A8 n c8, .bool u.hasQ, .string u.query, .bool u.hasF, .string u.frag] 29 (0, 0))) := Lib.hid fun wx hb => ⟨blk_below12 hU hb, blk_below12 hV hb⟩
       have HV8 : Hid (∀ wx, Below ((w3.setCell ⟨w2.heap.size, 16, none⟩ (.slice A8 n c8))).heap.size (w3.setCell ⟨w2.heap.size, 16, none⟩ (.slice A8 n c8)) wx → At12 wx u A8 n c8) := Lib.hid fun wx hb => ⟨hs8.below hb, HN.out.1, hcc8.1, hcc8.2, HWee.out⟩
       have HBy := Lib.hid (Below.refl ((w3.setCell ⟨w2.heap.size, 16, none⟩ (.slice A8 n c8))).heap.size (w3.setCell ⟨w2.heap.size, 16, none⟩ (.slice A8 n c8)))
       have hB16 : Hid (w2.heap.size + 1 ≤ ((w3.setCell ⟨w2.heap.size, 16, none⟩ (.slice A8 n c8))).heap.size) := by
         show _ ≤ _
         have := hb3.size
         simp only [World.size_alloc, World.size_setCell] at this ⊢
         omega
       have HR8 : Hid (RowS (w2.heap.size + 1) (w3.setCell ⟨w2.heap.size, 16, none⟩ (.slice A8 n c8)) (.slice A8 n c8) u.path) := hr4
       have HCc := Lib.hid hcc8
       have s1 := And.intro hU hV
       have hne : w2.heap.size ≠ g := Nat.ne_of_gt hlt
       have q8 := (blk_cell12 hg1 16 rfl)
       obtain ⟨q8, q9⟩ := q8
       clear hr3 hr4 hb3 hs8 hcc8 hB3 hX hg1 hU hV s0))
  clear hW hg
  go_region_held3 (fun wx => blk12 wx g = some (.cells #[.string u.scheme, .string u.user, .string u.pass, .int .i64 u.kind, .string u.name, .int .u32 (u.v4 : Int), .int .u16 (u.a0 : Int), .int .u16 (u.a1 : Int), .int .u16 (u.a2 : Int), .int .u16 (u.a3 : Int), .int .u16 (u.a4 : Int), .int .u16 (u.a5 : Int), .int .u16 (u.a6 : Int), .int .u16 (u.a7 : Int), .int .i64 u.port, .bool u.opaq, .slice A n c, .bool u.hasQ, .string u.query, .bool u.hasF, .string u.frag] 29 (0, 0)) ∧ blk12 wx w2.heap.size = some (.cells #[.string u.scheme, .string u.user, .string u.pass, .int .i64 u.kind, .string u.name, .int .u32 (u.v4 : Int), .int .u16 (u.a0 : Int), .int .u16 (u.a1 : Int), .int .u16 (u.a2 : Int), .int .u16 (u.a3 : Int), .int .u16 (u.a4 : Int), .int .u16 (u.a5 : Int), .int .u16 (u.a6 : Int), .int .u16 (u.a7 : Int), .int .i64 u.port, .bool u.opaq, .slice A8 n c8, .bool u.hasQ, .string u.query, .bool u.hasF, .string u.frag] 29 (0, 0))) (first | exact s1 | exact hS4 | exact hS5 | exact hS6 | go_keep) (first
    | (go_at_call 14; (with_reducible refine (H1.out _ (bn12 HW.out (bn12 hY.out (by first | exact HBy.out | exact HBy.out.drew))) _ _ (HAt.out _ (bn12 hY.out (by first | exact HBy.out | exact HBy.out.drew))) (HV8.out _ (by first | exact HBy.out | exact HBy.out.drew))).mono ?_); rintro e w4 ⟨rfl, hb1⟩; (first | have HBy := Lib.hid (bn12 HBy.out hb1) | have HBy := Lib.hid (bnd12 HBy.out hb1)); have hS4 := (HC2.out _ HBy.out); clear hb1)
    | (go_at_call 10; (with_reducible refine (H2.out _ (bn12 HW.out (bn12 hY.out (by first | exact HBy.out | exact HBy.out.drew))) (HAt.out _ (bn12 hY.out (by first | exact HBy.out | exact HBy.out.drew)))).mono ?_); rintro e w5 ⟨rfl, hb1⟩; (first | have HBy := Lib.hid (bn12 HBy.out hb1) | have HBy := Lib.hid (bnd12 HBy.out hb1)); have hS5 := (HC2.out _ HBy.out); clear hb1)
    | (go_at_call 10; (with_reducible refine (H3.out _ (bn12 HW.out (bn12 hY.out (by first | exact HBy.out | exact HBy.out.drew))) _ _ (HV8.out _ (by first | exact HBy.out | exact HBy.out.drew))).mono ?_); rintro e w6 ⟨rfl, hb1⟩; (first | have HBy := Lib.hid (bn12 HBy.out hb1) | have HBy := Lib.hid (bnd12 HBy.out hb1)); have hS6 := (HC2.out _ HBy.out); clear hb1))
  all_goals
    have hS := HC2.out _ HBy.out
    obtain ⟨hS7, hS8⟩ := hS
    obtain ⟨c1, c2⟩ := blk_cell12 hS8 0 rfl
    have HV9 : Hid (∀ x, At12 (World.setCell _ ⟨w2.heap.size, 0, none⟩ x) ({ u with scheme := u.scheme ++ ⟨#[120]⟩ } : Url12) A8 n c8) := Lib.hid fun x => ⟨rowS_segs (rowS_set (HR8.out.below HBy.out) (p := ⟨w2.heap.size, 0, none⟩) (Nat.lt_succ_self _) x), HN.out.1, HCc.out.1, HCc.out.2, HW2.out⟩
    go_wp2_with (go_at_call 14; (refine (H4.out _ (bn12 HW.out ((bn12 hY.out HBy.out).setCell (by simpa using hlW.out) _)) _ _ _ (HAt.out _ ((bn12 hY.out HBy.out).setCell (by simpa using hlW.out) _)) (HV9.out _)).mono ?_); rintro e w9 ⟨rfl, hb⟩; have HB9 := Lib.hid (bn12 ((bn12 hY.out HBy.out).setCell (by simpa using hlW.out) _) hb); clear hb)
    go_ret
    exact ⟨by simp, bn12 HW.out HB9.out⟩

theorem one12_1 {u : Url12} (hu : Nums12 u) : same12 u ({ u with user := u.user ++ ⟨#[120]⟩ } : Url12) = false := decide_eq_false fun h => (fun h => app_ne12 h) (h.2.1)
theorem wee12_1 {u : Url12} (h : Wee12 u) (hf : few12 u = true) : Wee12 ({ u with user := u.user ++ ⟨#[120]⟩ } : Url12) := by
  have hF := of_decide_eq_true hf
  obtain ⟨f1, f2, f3, f4, f5, f6, f7, f8⟩ := hF
  exact ⟨⟨h.nums.k0, h.nums.k1, h.nums.p0, h.nums.p1, h.nums.v4, h.nums.v6⟩, (h.len), (h.segs), (h.scheme), (by show (_ ++ _ : ByteArray).size ≤ 200; rw [ByteArray.size_append]; show _ + 1 ≤ 200; omega), (h.pass), (h.name), (h.query), (h.frag)⟩
set_option maxHeartbeats 8000000 in
set_option maxRecDepth 100000 in
theorem law_one12_1 (u : Url12) (A : Option Addr) (n c : Nat) (k : Int) (w : World) (hs : Segs w A u.path) (hn : u.path.length = n) (hl : n ≤ maxLen) (hc : n ≤ c ∧ (A = none → c = 0)) (hf : Fits12 u) (hu : Nums12 u) (k0 : 0 ≤ k) (k1 : k ≤ 255) (C : RecC w) (hfew : few12 u = true) (hk : k % 8 = 1) :
    Calls Tryd.prog 5 #[.agg #[.string u.scheme, .string u.user, .string u.pass, .int .i64 u.kind, .string u.name, .int .u32 (u.v4 : Int), .int .u16 (u.a0 : Int), .int .u16 (u.a1 : Int), .int .u16 (u.a2 : Int), .int .u16 (u.a3 : Int), .int .u16 (u.a4 : Int), .int .u16 (u.a5 : Int), .int .u16 (u.a6 : Int), .int .u16 (u.a7 : Int), .int .i64 u.port, .bool u.opaq, .slice A n c, .bool u.hasQ, .string u.query, .bool u.hasF, .string u.frag], .int .u8 k] w (Yes12 w) := by
  have HC := Lib.hid C
  clear C
  obtain ⟨W, hW⟩ : ∃ W, (w.alloc (.cells #[.string u.scheme, .string u.user, .string u.pass, .int .i64 u.kind, .string u.name, .int .u32 (u.v4 : Int), .int .u16 (u.a0 : Int), .int .u16 (u.a1 : Int), .int .u16 (u.a2 : Int), .int .u16 (u.a3 : Int), .int .u16 (u.a4 : Int), .int .u16 (u.a5 : Int), .int .u16 (u.a6 : Int), .int .u16 (u.a7 : Int), .int .i64 u.port, .bool u.opaq, .slice A n c, .bool u.hasQ, .string u.query, .bool u.hasF, .string u.frag] 29)) = W := ⟨_, rfl⟩
  have HW : Hid (Below w.heap.size w W) := by show Below w.heap.size w W; rw [← hW]; exact bel12 _ _
  have HCs : Hid (∀ wx, Below W.heap.size W wx → blk12 wx w.heap.size = some (.cells #[.string u.scheme, .string u.user, .string u.pass, .int .i64 u.kind, .string u.name, .int .u32 (u.v4 : Int), .int .u16 (u.a0 : Int), .int .u16 (u.a1 : Int), .int .u16 (u.a2 : Int), .int .u16 (u.a3 : Int), .int .u16 (u.a4 : Int), .int .u16 (u.a5 : Int), .int .u16 (u.a6 : Int), .int .u16 (u.a7 : Int), .int .i64 u.port, .bool u.opaq, .slice A n c, .bool u.hasQ, .string u.query, .bool u.hasF, .string u.frag] 29 (0, 0))) := by
    show ∀ wx, Below W.heap.size W wx → _
    subst hW
    exact fun wx hb => ((cells12 (.string u.scheme) (.string u.user) (.string u.pass) (.int .i64 u.kind) (.string u.name) (.int .u32 (u.v4 : Int)) (.int .u16 (u.a0 : Int)) (.int .u16 (u.a1 : Int)) (.int .u16 (u.a2 : Int)) (.int .u16 (u.a3 : Int)) (.int .u16 (u.a4 : Int)) (.int .u16 (u.a5 : Int)) (.int .u16 (u.a6 : Int)) (.int .u16 (u.a7 : Int)) (.int .i64 u.port) (.bool u.opaq) (.slice A n c) (.bool u.hasQ) (.string u.query) (.bool u.hasF) (.string u.frag)) wx hb).1.out
  have HA : Hid (Calls Tryd.prog 8 #[] W (Yes12 W)) := awake12 (HC.out.behind HW.out)
  have HF := Lib.hid (fun wx (hb : Below W.heap.size W wx) => rfew_is hfew A n c hn hl wx (hs.below (bn12 HW.out hb)) hf)
  obtain ⟨g, hg⟩ : ∃ g, w.heap.size = g := ⟨_, rfl⟩
  have hgW : g < W.heap.size := by rw [← hW, ← hg]; simp
  have hwee := few12_wee hu hfew
  have HWee := Lib.hid hwee
  have hwee2 := wee12_1 hwee hfew
  have HSg := Lib.hid (fun wx (hb : Below W.heap.size W wx) => hs.below (bn12 HW.out hb))
  have HN := Lib.hid (And.intro hn hc.2)
  have hn50 : n ≤ 50 := by have := hwee.len; omega
  have HAt : Hid (∀ wx, Below W.heap.size W wx → At12 wx u A n c) := fun wx hb => ⟨hs.below (bn12 HW.out hb), hn, hc.1, hc.2, hwee⟩
  obtain ⟨t, ht⟩ : ∃ t, txt10 (text12 u false) = t := ⟨_, rfl⟩
  have H1 := Lib.hid (fun wx hb A8 c8 (ha : At12 wx u A n c) (he : At12 wx u A8 n c8) => csame12 HC.out (same12_self u) wx hb ha he)
  have H2 := Lib.hid (fun wx hb (ha : At12 wx u A n c) => ctext12 HC.out ht wx hb ha)
  have H3 := Lib.hid (fun wx hb A8 c8 (ha : At12 wx u A8 n c8) => ctext12 HC.out ht wx hb ha)
  have H4 := Lib.hid (fun wx hb A8 m8 c8 (ha : At12 wx u A n c) (he : At12 wx ({ u with user := u.user ++ ⟨#[120]⟩ } : Url12) A8 m8 c8) => csame12 HC.out (one12_1 hu) wx hb ha he)
  rw [hg] at HCs
  have HgW := Lib.hid hgW
  have HW2 := Lib.hid hwee2
  have hk2 : k.tmod 8 = 1 := by rw [Int.tmod_eq_emod_of_nonneg k0]; exact hk
  have z1 := hwee.scheme; have z2 := hwee.user; have z3 := hwee.pass
  clear ht hfew hs hn hl hc hf hu hwee hgW hwee2
  go_enter Tryd.func5, Tryd.ntmps5
  go_wp2_with (first
    | (go_at_call 8; (try rw [hW]); refine HA.out.mono ?_; rintro e w1 ⟨rfl, hb⟩; have HBc := Lib.hid hb; (try rw [hg]); have s0 := HCs.out _ hb; clear hb)
    | (go_at_call 9; (with_reducible refine (HF.out _ HBc.out).mono ?_); rintro e w2 ⟨rfl, hb⟩; have HBc := Lib.hid (bn12 HBc.out hb); clear s0; have s0 := HCs.out _ HBc.out; have hlt := Nat.lt_of_lt_of_le HgW.out HBc.out.size; have q6 := (blk_cell12 s0 16 rfl).1; have hlW := Lib.hid HBc.out.size; clear hb)
    | (at_builtin
       refine append_segs rfl (.tmp 14) (.tmp 16) rfl (w2.heap.size + 1) _ [] A n c u.path rfl rfl (rowS_at (by simp only [World.size_alloc])) (HSg.out _ (bn12 HBc.out (bn12 (bel12 _ _) (bel12 _ _)))) HN.out.1.symm HN.out.2 (by have := HN.out.1; simp; omega) (by simp only [World.size_alloc]; omega) ?_
       intro v3 w3 hr3 hb3
       have hr4 := rowS_set hr3 (p := ⟨w2.heap.size, 16, none⟩) (Nat.lt_succ_self _) v3
       obtain ⟨A8, c8, hv8, hcc8, hs8⟩ := hr4.segs
       rw [List.nil_append] at hr4
       rw [List.nil_append, HN.out.1] at hv8 hcc8
       rw [List.nil_append] at hs8
       subst hv8
       have hB3 : Below (w2.heap.size + 1) ((w2.alloc (.cells #[.string u.scheme, .string u.user, .string u.pass, .int .i64 u.kind, .string u.name, .int .u32 (u.v4 : Int), .int .u16 (u.a0 : Int), .int .u16 (u.a1 : Int), .int .u16 (u.a2 : Int), .int .u16 (u.a3 : Int), .int .u16 (u.a4 : Int), .int .u16 (u.a5 : Int), .int .u16 (u.a6 : Int), .int .u16 (u.a7 : Int), .int .i64 u.port, .bool u.opaq, .slice A n c, .bool u.hasQ, .string u.query, .bool u.hasF, .string u.frag] 29)).alloc (.cells #[] 9)) w3 := hb3
       have hX : Below w2.heap.size w2 w3 := (bn12 (bel12 w2 (.cells #[.string u.scheme, .string u.user, .string u.pass, .int .i64 u.kind, .string u.name, .int .u32 (u.v4 : Int), .int .u16 (u.a0 : Int), .int .u16 (u.a1 : Int), .int .u16 (u.a2 : Int), .int .u16 (u.a3 : Int), .int .u16 (u.a4 : Int), .int .u16 (u.a5 : Int), .int .u16 (u.a6 : Int), .int .u16 (u.a7 : Int), .int .i64 u.port, .bool u.opaq, .slice A n c, .bool u.hasQ, .string u.query, .bool u.hasF, .string u.frag] 29)) (bel12 _ (.cells #[] 9))).trans (hB3.mono (by omega))
       have hg1 : blk12 w3 w2.heap.size = some (.cells #[.string u.scheme, .string u.user, .string u.pass, .int .i64 u.kind, .string u.name, .int .u32 (u.v4 : Int), .int .u16 (u.a0 : Int), .int .u16 (u.a1 : Int), .int .u16 (u.a2 : Int), .int .u16 (u.a3 : Int), .int .u16 (u.a4 : Int), .int .u16 (u.a5 : Int), .int .u16 (u.a6 : Int), .int .u16 (u.a7 : Int), .int .i64 u.port, .bool u.opaq, .slice A n c, .bool u.hasQ, .string u.query, .bool u.hasF, .string u.frag] 29 (0, 0)) := (hB3.block w2.heap.size (by omega)).trans ((heap_old12 _ _ _ (by simp)).trans (heap_here12 _ _ _ rfl))
       have hY : Hid (Below W.heap.size W (w3.setCell ⟨w2.heap.size, 16, none⟩ (.slice A8 n c8))) := (bn12 HBc.out hX).setCell (by simpa using HBc.out.size) _
       have hU : blk12 (w3.setCell ⟨w2.heap.size, 16, none⟩ (.slice A8 n c8)) g = some (.cells #[.string u.scheme, .string u.user, .string u.pass, .int .i64 u.kind, .string u.name, .int .u32 (u.v4 : Int), .int .u16 (u.a0 : Int), .int .u16 (u.a1 : Int), .int .u16 (u.a2 : Int), .int .u16 (u.a3 : Int), .int .u16 (u.a4 : Int), .int .u16 (u.a5 : Int), .int .u16 (u.a6 : Int), .int .u16 (u.a7 : Int), .int .i64 u.port, .bool u.opaq, .slice A n c, .bool u.hasQ, .string u.query, .bool u.hasF, .string u.frag] 29 (0, 0)) := (heap_other12 _ _ _ _ _ (Nat.ne_of_gt hlt)).trans (HCs.out _ (bn12 HBc.out hX))
       have hV : blk12 (w3.setCell ⟨w2.heap.size, 16, none⟩ (.slice A8 n c8)) w2.heap.size = some (.cells #[.string u.scheme, .string u.user, .string u.pass, .int .i64 u.kind, .string u.name, .int .u32 (u.v4 : Int), .int .u16 (u.a0 : Int), .int .u16 (u.a1 : Int), .int .u16 (u.a2 : Int), .int .u16 (u.a3 : Int), .int .u16 (u.a4 : Int), .int .u16 (u.a5 : Int), .int .u16 (u.a6 : Int), .int .u16 (u.a7 : Int), .int .i64 u.port, .bool u.opaq, .slice A8 n c8, .bool u.hasQ, .string u.query, .bool u.hasF, .string u.frag] 29 (0, 0)) := (heap_put12 _ _ _ _).trans (by rw [hg1]; rfl)
       have HC2 : Hid (∀ wx, Below ((w3.setCell ⟨w2.heap.size, 16, none⟩ (.slice A8 n c8))).heap.size (w3.setCell ⟨w2.heap.size, 16, none⟩ (.slice A8 n c8)) wx → blk12 wx g = some (.cells #[.string u.scheme, .string u.user, .string u.pass, .int .i64 u.kind, .string u.name, .int .u32 (u.v4 : Int), .int .u16 (u.a0 : Int), .int .u16 (u.a1 : Int), .int .u16 (u.a2 : Int), .int .u16 (u.a3 : Int), .int .u16 (u.a4 : Int), .int .u16 (u.a5 : Int), .int .u16 (u.a6 : Int), .int .u16 (u.a7 : Int), .int .i64 u.port, .bool u.opaq, .slice A n c, .bool u.hasQ, .string u.query, .bool u.hasF, .string u.frag] 29 (0, 0)) ∧ blk12 wx w2.heap.size = some (.cells #[.string u.scheme, .string u.user, .string u.pass, .int .i64 u.kind, .string u.name, .int .u32 (u.v4 : Int), .int .u16 (u.a0 : Int), .int .u16 (u.a1 : Int), .int .u16 (u.a2 : Int), .int .u16 (u.a3 : Int), .int .u16 (u.a4 : Int), .int .u16 (u.a5 : Int), .int .u16 (u.a6 : Int), .int .u16 (u.a7 : Int), .int .i64 u.port, .bool u.opaq, .slice A8 n c8, .bool u.hasQ, .string u.query, .bool u.hasF, .string u.frag] 29 (0, 0))) := Lib.hid fun wx hb => ⟨blk_below12 hU hb, blk_below12 hV hb⟩
       have HV8 : Hid (∀ wx, Below ((w3.setCell ⟨w2.heap.size, 16, none⟩ (.slice A8 n c8))).heap.size (w3.setCell ⟨w2.heap.size, 16, none⟩ (.slice A8 n c8)) wx → At12 wx u A8 n c8) := Lib.hid fun wx hb => ⟨hs8.below hb, HN.out.1, hcc8.1, hcc8.2, HWee.out⟩
       have HBy := Lib.hid (Below.refl ((w3.setCell ⟨w2.heap.size, 16, none⟩ (.slice A8 n c8))).heap.size (w3.setCell ⟨w2.heap.size, 16, none⟩ (.slice A8 n c8)))
       have hB16 : Hid (w2.heap.size + 1 ≤ ((w3.setCell ⟨w2.heap.size, 16, none⟩ (.slice A8 n c8))).heap.size) := by
         show _ ≤ _
         have := hb3.size
         simp only [World.size_alloc, World.size_setCell] at this ⊢
         omega
       have HR8 : Hid (RowS (w2.heap.size + 1) (w3.setCell ⟨w2.heap.size, 16, none⟩ (.slice A8 n c8)) (.slice A8 n c8) u.path) := hr4
       have HCc := Lib.hid hcc8
       have s1 := And.intro hU hV
       have hne : w2.heap.size ≠ g := Nat.ne_of_gt hlt
       have q8 := (blk_cell12 hg1 16 rfl)
       obtain ⟨q8, q9⟩ := q8
       clear hr3 hr4 hb3 hs8 hcc8 hB3 hX hg1 hU hV s0))
  clear hW hg
  go_region_held3 (fun wx => blk12 wx g = some (.cells #[.string u.scheme, .string u.user, .string u.pass, .int .i64 u.kind, .string u.name, .int .u32 (u.v4 : Int), .int .u16 (u.a0 : Int), .int .u16 (u.a1 : Int), .int .u16 (u.a2 : Int), .int .u16 (u.a3 : Int), .int .u16 (u.a4 : Int), .int .u16 (u.a5 : Int), .int .u16 (u.a6 : Int), .int .u16 (u.a7 : Int), .int .i64 u.port, .bool u.opaq, .slice A n c, .bool u.hasQ, .string u.query, .bool u.hasF, .string u.frag] 29 (0, 0)) ∧ blk12 wx w2.heap.size = some (.cells #[.string u.scheme, .string u.user, .string u.pass, .int .i64 u.kind, .string u.name, .int .u32 (u.v4 : Int), .int .u16 (u.a0 : Int), .int .u16 (u.a1 : Int), .int .u16 (u.a2 : Int), .int .u16 (u.a3 : Int), .int .u16 (u.a4 : Int), .int .u16 (u.a5 : Int), .int .u16 (u.a6 : Int), .int .u16 (u.a7 : Int), .int .i64 u.port, .bool u.opaq, .slice A8 n c8, .bool u.hasQ, .string u.query, .bool u.hasF, .string u.frag] 29 (0, 0))) (first | exact s1 | exact hS4 | exact hS5 | exact hS6 | go_keep) (first
    | (go_at_call 14; (with_reducible refine (H1.out _ (bn12 HW.out (bn12 hY.out (by first | exact HBy.out | exact HBy.out.drew))) _ _ (HAt.out _ (bn12 hY.out (by first | exact HBy.out | exact HBy.out.drew))) (HV8.out _ (by first | exact HBy.out | exact HBy.out.drew))).mono ?_); rintro e w4 ⟨rfl, hb1⟩; (first | have HBy := Lib.hid (bn12 HBy.out hb1) | have HBy := Lib.hid (bnd12 HBy.out hb1)); have hS4 := (HC2.out _ HBy.out); clear hb1)
    | (go_at_call 10; (with_reducible refine (H2.out _ (bn12 HW.out (bn12 hY.out (by first | exact HBy.out | exact HBy.out.drew))) (HAt.out _ (bn12 hY.out (by first | exact HBy.out | exact HBy.out.drew)))).mono ?_); rintro e w5 ⟨rfl, hb1⟩; (first | have HBy := Lib.hid (bn12 HBy.out hb1) | have HBy := Lib.hid (bnd12 HBy.out hb1)); have hS5 := (HC2.out _ HBy.out); clear hb1)
    | (go_at_call 10; (with_reducible refine (H3.out _ (bn12 HW.out (bn12 hY.out (by first | exact HBy.out | exact HBy.out.drew))) _ _ (HV8.out _ (by first | exact HBy.out | exact HBy.out.drew))).mono ?_); rintro e w6 ⟨rfl, hb1⟩; (first | have HBy := Lib.hid (bn12 HBy.out hb1) | have HBy := Lib.hid (bnd12 HBy.out hb1)); have hS6 := (HC2.out _ HBy.out); clear hb1))
  all_goals
    have hS := HC2.out _ HBy.out
    obtain ⟨hS7, hS8⟩ := hS
    obtain ⟨c1, c2⟩ := blk_cell12 hS8 1 rfl
    have HV9 : Hid (∀ x, At12 (World.setCell _ ⟨w2.heap.size, 1, none⟩ x) ({ u with user := u.user ++ ⟨#[120]⟩ } : Url12) A8 n c8) := Lib.hid fun x => ⟨rowS_segs (rowS_set (HR8.out.below HBy.out) (p := ⟨w2.heap.size, 1, none⟩) (Nat.lt_succ_self _) x), HN.out.1, HCc.out.1, HCc.out.2, HW2.out⟩
    go_wp2_with (go_at_call 14; (refine (H4.out _ (bn12 HW.out ((bn12 hY.out HBy.out).setCell (by simpa using hlW.out) _)) _ _ _ (HAt.out _ ((bn12 hY.out HBy.out).setCell (by simpa using hlW.out) _)) (HV9.out _)).mono ?_); rintro e w9 ⟨rfl, hb⟩; have HB9 := Lib.hid (bn12 ((bn12 hY.out HBy.out).setCell (by simpa using hlW.out) _) hb); clear hb)
    go_ret
    exact ⟨by simp, bn12 HW.out HB9.out⟩
end Go.Proofs.YtliklhldlofnjaaDoor

/-
  The law RecordOne of layer 12, over the program's contracts (written by mkrec.py).
-/
namespace Go.Proofs.YtliklhldlofnjaaDoor
open Go.RowKit
attribute [local go_sem ↓] foldL12 foldS12
attribute [local go_sem] loadU_run viaRow_cells storeU_run viaStore_cells setRow_here12 heap_here12 heap_old12 heap_put12 put12_cells heap_other12 blk_drew12


theorem one12_2 {u : Url12} (hu : Nums12 u) : same12 u ({ u with pass := u.pass ++ ⟨#[120]⟩ } : Url12) = false := decide_eq_false fun h => (fun h => app_ne12 h) (h.2.2.1)
theorem wee12_2 {u : Url12} (h : Wee12 u) (hf : few12 u = true) : Wee12 ({ u with pass := u.pass ++ ⟨#[120]⟩ } : Url12) := by
  have hF := of_decide_eq_true hf
  obtain ⟨f1, f2, f3, f4, f5, f6, f7, f8⟩ := hF
  exact ⟨⟨h.nums.k0, h.nums.k1, h.nums.p0, h.nums.p1, h.nums.v4, h.nums.v6⟩, (h.len), (h.segs), (h.scheme), (h.user), (by show (_ ++ _ : ByteArray).size ≤ 200; rw [ByteArray.size_append]; show _ + 1 ≤ 200; omega), (h.name), (h.query), (h.frag)⟩
set_option maxHeartbeats 8000000 in
set_option maxRecDepth 100000 in
theorem law_one12_2 (u : Url12) (A : Option Addr) (n c : Nat) (k : Int) (w : World) (hs : Segs w A u.path) (hn : u.path.length = n) (hl : n ≤ maxLen) (hc : n ≤ c ∧ (A = none → c = 0)) (hf : Fits12 u) (hu : Nums12 u) (k0 : 0 ≤ k) (k1 : k ≤ 255) (C : RecC w) (hfew : few12 u = true) (hk : k % 8 = 2) :
    Calls Tryd.prog 5 #[.agg #[.string u.scheme, .string u.user, .string u.pass, .int .i64 u.kind, .string u.name, .int .u32 (u.v4 : Int), .int .u16 (u.a0 : Int), .int .u16 (u.a1 : Int), .int .u16 (u.a2 : Int), .int .u16 (u.a3 : Int), .int .u16 (u.a4 : Int), .int .u16 (u.a5 : Int), .int .u16 (u.a6 : Int), .int .u16 (u.a7 : Int), .int .i64 u.port, .bool u.opaq, .slice A n c, .bool u.hasQ, .string u.query, .bool u.hasF, .string u.frag], .int .u8 k] w (Yes12 w) := by
  have HC := Lib.hid C
  clear C
  obtain ⟨W, hW⟩ : ∃ W, (w.alloc (.cells #[.string u.scheme, .string u.user, .string u.pass, .int .i64 u.kind, .string u.name, .int .u32 (u.v4 : Int), .int .u16 (u.a0 : Int), .int .u16 (u.a1 : Int), .int .u16 (u.a2 : Int), .int .u16 (u.a3 : Int), .int .u16 (u.a4 : Int), .int .u16 (u.a5 : Int), .int .u16 (u.a6 : Int), .int .u16 (u.a7 : Int), .int .i64 u.port, .bool u.opaq, .slice A n c, .bool u.hasQ, .string u.query, .bool u.hasF, .string u.frag] 29)) = W := ⟨_, rfl⟩
  have HW : Hid (Below w.heap.size w W) := by show Below w.heap.size w W; rw [← hW]; exact bel12 _ _
  have HCs : Hid (∀ wx, Below W.heap.size W wx → blk12 wx w.heap.size = some (.cells #[.string u.scheme, .string u.user, .string u.pass, .int .i64 u.kind, .string u.name, .int .u32 (u.v4 : Int), .int .u16 (u.a0 : Int), .int .u16 (u.a1 : Int), .int .u16 (u.a2 : Int), .int .u16 (u.a3 : Int), .int .u16 (u.a4 : Int), .int .u16 (u.a5 : Int), .int .u16 (u.a6 : Int), .int .u16 (u.a7 : Int), .int .i64 u.port, .bool u.opaq, .slice A n c, .bool u.hasQ, .string u.query, .bool u.hasF, .string u.frag] 29 (0, 0))) := by
    show ∀ wx, Below W.heap.size W wx → _
    subst hW
    exact fun wx hb => ((cells12 (.string u.scheme) (.string u.user) (.string u.pass) (.int .i64 u.kind) (.string u.name) (.int .u32 (u.v4 : Int)) (.int .u16 (u.a0 : Int)) (.int .u16 (u.a1 : Int)) (.int .u16 (u.a2 : Int)) (.int .u16 (u.a3 : Int)) (.int .u16 (u.a4 : Int)) (.int .u16 (u.a5 : Int)) (.int .u16 (u.a6 : Int)) (.int .u16 (u.a7 : Int)) (.int .i64 u.port) (.bool u.opaq) (.slice A n c) (.bool u.hasQ) (.string u.query) (.bool u.hasF) (.string u.frag)) wx hb).1.out
  have HA : Hid (Calls Tryd.prog 8 #[] W (Yes12 W)) := awake12 (HC.out.behind HW.out)
  have HF := Lib.hid (fun wx (hb : Below W.heap.size W wx) => rfew_is hfew A n c hn hl wx (hs.below (bn12 HW.out hb)) hf)
  obtain ⟨g, hg⟩ : ∃ g, w.heap.size = g := ⟨_, rfl⟩
  have hgW : g < W.heap.size := by rw [← hW, ← hg]; simp
  have hwee := few12_wee hu hfew
  have HWee := Lib.hid hwee
  have hwee2 := wee12_2 hwee hfew
  have HSg := Lib.hid (fun wx (hb : Below W.heap.size W wx) => hs.below (bn12 HW.out hb))
  have HN := Lib.hid (And.intro hn hc.2)
  have hn50 : n ≤ 50 := by have := hwee.len; omega
  have HAt : Hid (∀ wx, Below W.heap.size W wx → At12 wx u A n c) := fun wx hb => ⟨hs.below (bn12 HW.out hb), hn, hc.1, hc.2, hwee⟩
  obtain ⟨t, ht⟩ : ∃ t, txt10 (text12 u false) = t := ⟨_, rfl⟩
  have H1 := Lib.hid (fun wx hb A8 c8 (ha : At12 wx u A n c) (he : At12 wx u A8 n c8) => csame12 HC.out (same12_self u) wx hb ha he)
  have H2 := Lib.hid (fun wx hb (ha : At12 wx u A n c) => ctext12 HC.out ht wx hb ha)
  have H3 := Lib.hid (fun wx hb A8 c8 (ha : At12 wx u A8 n c8) => ctext12 HC.out ht wx hb ha)
  have H4 := Lib.hid (fun wx hb A8 m8 c8 (ha : At12 wx u A n c) (he : At12 wx ({ u with pass := u.pass ++ ⟨#[120]⟩ } : Url12) A8 m8 c8) => csame12 HC.out (one12_2 hu) wx hb ha he)
  rw [hg] at HCs
  have HgW := Lib.hid hgW
  have HW2 := Lib.hid hwee2
  have hk2 : k.tmod 8 = 2 := by rw [Int.tmod_eq_emod_of_nonneg k0]; exact hk
  have z1 := hwee.scheme; have z2 := hwee.user; have z3 := hwee.pass
  clear ht hfew hs hn hl hc hf hu hwee hgW hwee2
  go_enter Tryd.func5, Tryd.ntmps5
  go_wp2_with (first
    | (go_at_call 8; (try rw [hW]); refine HA.out.mono ?_; rintro e w1 ⟨rfl, hb⟩; have HBc := Lib.hid hb; (try rw [hg]); have s0 := HCs.out _ hb; clear hb)
    | (go_at_call 9; (with_reducible refine (HF.out _ HBc.out).mono ?_); rintro e w2 ⟨rfl, hb⟩; have HBc := Lib.hid (bn12 HBc.out hb); clear s0; have s0 := HCs.out _ HBc.out; have hlt := Nat.lt_of_lt_of_le HgW.out HBc.out.size; have q6 := (blk_cell12 s0 16 rfl).1; have hlW := Lib.hid HBc.out.size; clear hb)
    | (at_builtin
       refine append_segs rfl (.tmp 14) (.tmp 16) rfl (w2.heap.size + 1) _ [] A n c u.path rfl rfl (rowS_at (by simp only [World.size_alloc])) (HSg.out _ (bn12 HBc.out (bn12 (bel12 _ _) (bel12 _ _)))) HN.out.1.symm HN.out.2 (by have := HN.out.1; simp; omega) (by simp only [World.size_alloc]; omega) ?_
       intro v3 w3 hr3 hb3
       have hr4 := rowS_set hr3 (p := ⟨w2.heap.size, 16, none⟩) (Nat.lt_succ_self _) v3
       obtain ⟨A8, c8, hv8, hcc8, hs8⟩ := hr4.segs
       rw [List.nil_append] at hr4
       rw [List.nil_append, HN.out.1] at hv8 hcc8
       rw [List.nil_append] at hs8
       subst hv8
       have hB3 : Below (w2.heap.size + 1) ((w2.alloc (.cells #[.string u.scheme, .string u.user, .string u.pass, .int .i64 u.kind, .string u.name, .int .u32 (u.v4 : Int), .int .u16 (u.a0 : Int), .int .u16 (u.a1 : Int), .int .u16 (u.a2 : Int), .int .u16 (u.a3 : Int), .int .u16 (u.a4 : Int), .int .u16 (u.a5 : Int), .int .u16 (u.a6 : Int), .int .u16 (u.a7 : Int), .int .i64 u.port, .bool u.opaq, .slice A n c, .bool u.hasQ, .string u.query, .bool u.hasF, .string u.frag] 29)).alloc (.cells #[] 9)) w3 := hb3
       have hX : Below w2.heap.size w2 w3 := (bn12 (bel12 w2 (.cells #[.string u.scheme, .string u.user, .string u.pass, .int .i64 u.kind, .string u.name, .int .u32 (u.v4 : Int), .int .u16 (u.a0 : Int), .int .u16 (u.a1 : Int), .int .u16 (u.a2 : Int), .int .u16 (u.a3 : Int), .int .u16 (u.a4 : Int), .int .u16 (u.a5 : Int), .int .u16 (u.a6 : Int), .int .u16 (u.a7 : Int), .int .i64 u.port, .bool u.opaq, .slice A n c, .bool u.hasQ, .string u.query, .bool u.hasF, .string u.frag] 29)) (bel12 _ (.cells #[] 9))).trans (hB3.mono (by omega))
       have hg1 : blk12 w3 w2.heap.size = some (.cells #[.string u.scheme, .string u.user, .string u.pass, .int .i64 u.kind, .string u.name, .int .u32 (u.v4 : Int), .int .u16 (u.a0 : Int), .int .u16 (u.a1 : Int), .int .u16 (u.a2 : Int), .int .u16 (u.a3 : Int), .int .u16 (u.a4 : Int), .int .u16 (u.a5 : Int), .int .u16 (u.a6 : Int), .int .u16 (u.a7 : Int), .int .i64 u.port, .bool u.opaq, .slice A n c, .bool u.hasQ, .string u.query, .bool u.hasF, .string u.frag] 29 (0, 0)) := (hB3.block w2.heap.size (by omega)).trans ((heap_old12 _ _ _ (by simp)).trans (heap_here12 _ _ _ rfl))
       have hY : Hid (Below W.heap.size W (w3.setCell ⟨w2.heap.size, 16, none⟩ (.slice A8 n c8))) := (bn12 HBc.out hX).setCell (by simpa using HBc.out.size) _
       have hU : blk12 (w3.setCell ⟨w2.heap.size, 16, none⟩ (.slice A8 n c8)) g = some (.cells #[.string u.scheme, .string u.user, .string u.pass, .int .i64 u.kind, .string u.name, .int .u32 (u.v4 : Int), .int .u16 (u.a0 : Int), .int .u16 (u.a1 : Int), .int .u16 (u.a2 : Int), .int .u16 (u.a3 : Int), .int .u16 (u.a4 : Int), .int .u16 (u.a5 : Int), .int .u16 (u.a6 : Int), .int .u16 (u.a7 : Int), .int .i64 u.port, .bool u.opaq, .slice A n c, .bool u.hasQ, .string u.query, .bool u.hasF, .string u.frag] 29 (0, 0)) := (heap_other12 _ _ _ _ _ (Nat.ne_of_gt hlt)).trans (HCs.out _ (bn12 HBc.out hX))
       have hV : blk12 (w3.setCell ⟨w2.heap.size, 16, none⟩ (.slice A8 n c8)) w2.heap.size = some (.cells #[.string u.scheme, .string u.user, .string u.pass, .int .i64 u.kind, .string u.name, .int .u32 (u.v4 : Int), .int .u16 (u.a0 : Int), .int .u16 (u.a1 : Int), .int .u16 (u.a2 : Int), .int .u16 (u.a3 : Int), .int .u16 (u.a4 : Int), .int .u16 (u.a5 : Int), .int .u16 (u.a6 : Int), .int .u16 (u.a7 : Int), .int .i64 u.port, .bool u.opaq, .slice A8 n c8, .bool u.hasQ, .string u.query, .bool u.hasF, .string u.frag] 29 (0, 0)) := (heap_put12 _ _ _ _).trans (by rw [hg1]; rfl)
       have HC2 : Hid (∀ wx, Below ((w3.setCell ⟨w2.heap.size, 16, none⟩ (.slice A8 n c8))).heap.size (w3.setCell ⟨w2.heap.size, 16, none⟩ (.slice A8 n c8)) wx → blk12 wx g = some (.cells #[.string u.scheme, .string u.user, .string u.pass, .int .i64 u.kind, .string u.name, .int .u32 (u.v4 : Int), .int .u16 (u.a0 : Int), .int .u16 (u.a1 : Int), .int .u16 (u.a2 : Int), .int .u16 (u.a3 : Int), .int .u16 (u.a4 : Int), .int .u16 (u.a5 : Int), .int .u16 (u.a6 : Int), .int .u16 (u.a7 : Int), .int .i64 u.port, .bool u.opaq, .slice A n c, .bool u.hasQ, .string u.query, .bool u.hasF, .string u.frag] 29 (0, 0)) ∧ blk12 wx w2.heap.size = some (.cells #[.string u.scheme, .string u.user, .string u.pass, .int .i64 u.kind, .string u.name, .int .u32 (u.v4 : Int), .int .u16 (u.a0 : Int), .int .u16 (u.a1 : Int), .int .u16 (u.a2 : Int), .int .u16 (u.a3 : Int), .int .u16 (u.a4 : Int), .int .u16 (u.a5 : Int), .int .u16 (u.a6 : Int), .int .u16 (u.a7 : Int), .int .i64 u.port, .bool u.opaq, .slice A8 n c8, .bool u.hasQ, .string u.query, .bool u.hasF, .string u.frag] 29 (0, 0))) := Lib.hid fun wx hb => ⟨blk_below12 hU hb, blk_below12 hV hb⟩
       have HV8 : Hid (∀ wx, Below ((w3.setCell ⟨w2.heap.size, 16, none⟩ (.slice A8 n c8))).heap.size (w3.setCell ⟨w2.heap.size, 16, none⟩ (.slice A8 n c8)) wx → At12 wx u A8 n c8) := Lib.hid fun wx hb => ⟨hs8.below hb, HN.out.1, hcc8.1, hcc8.2, HWee.out⟩
       have HBy := Lib.hid (Below.refl ((w3.setCell ⟨w2.heap.size, 16, none⟩ (.slice A8 n c8))).heap.size (w3.setCell ⟨w2.heap.size, 16, none⟩ (.slice A8 n c8)))
       have hB16 : Hid (w2.heap.size + 1 ≤ ((w3.setCell ⟨w2.heap.size, 16, none⟩ (.slice A8 n c8))).heap.size) := by
         show _ ≤ _
         have := hb3.size
         simp only [World.size_alloc, World.size_setCell] at this ⊢
         omega
       have HR8 : Hid (RowS (w2.heap.size + 1) (w3.setCell ⟨w2.heap.size, 16, none⟩ (.slice A8 n c8)) (.slice A8 n c8) u.path) := hr4
       have HCc := Lib.hid hcc8
       have s1 := And.intro hU hV
       have hne : w2.heap.size ≠ g := Nat.ne_of_gt hlt
       have q8 := (blk_cell12 hg1 16 rfl)
       obtain ⟨q8, q9⟩ := q8
       clear hr3 hr4 hb3 hs8 hcc8 hB3 hX hg1 hU hV s0))
  clear hW hg
  go_region_held3 (fun wx => blk12 wx g = some (.cells #[.string u.scheme, .string u.user, .string u.pass, .int .i64 u.kind, .string u.name, .int .u32 (u.v4 : Int), .int .u16 (u.a0 : Int), .int .u16 (u.a1 : Int), .int .u16 (u.a2 : Int), .int .u16 (u.a3 : Int), .int .u16 (u.a4 : Int), .int .u16 (u.a5 : Int), .int .u16 (u.a6 : Int), .int .u16 (u.a7 : Int), .int .i64 u.port, .bool u.opaq, .slice A n c, .bool u.hasQ, .string u.query, .bool u.hasF, .string u.frag] 29 (0, 0)) ∧ blk12 wx w2.heap.size = some (.cells #[.string u.scheme, .string u.user, .string u.pass, .int .i64 u.kind, .string u.name, .int .u32 (u.v4 : Int), .int .u16 (u.a0 : Int), .int .u16 (u.a1 : Int), .int .u16 (u.a2 : Int), .int .u16 (u.a3 : Int), .int .u16 (u.a4 : Int), .int .u16 (u.a5 : Int), .int .u16 (u.a6 : Int), .int .u16 (u.a7 : Int), .int .i64 u.port, .bool u.opaq, .slice A8 n c8, .bool u.hasQ, .string u.query, .bool u.hasF, .string u.frag] 29 (0, 0))) (first | exact s1 | exact hS4 | exact hS5 | exact hS6 | go_keep) (first
    | (go_at_call 14; (with_reducible refine (H1.out _ (bn12 HW.out (bn12 hY.out (by first | exact HBy.out | exact HBy.out.drew))) _ _ (HAt.out _ (bn12 hY.out (by first | exact HBy.out | exact HBy.out.drew))) (HV8.out _ (by first | exact HBy.out | exact HBy.out.drew))).mono ?_); rintro e w4 ⟨rfl, hb1⟩; (first | have HBy := Lib.hid (bn12 HBy.out hb1) | have HBy := Lib.hid (bnd12 HBy.out hb1)); have hS4 := (HC2.out _ HBy.out); clear hb1)
    | (go_at_call 10; (with_reducible refine (H2.out _ (bn12 HW.out (bn12 hY.out (by first | exact HBy.out | exact HBy.out.drew))) (HAt.out _ (bn12 hY.out (by first | exact HBy.out | exact HBy.out.drew)))).mono ?_); rintro e w5 ⟨rfl, hb1⟩; (first | have HBy := Lib.hid (bn12 HBy.out hb1) | have HBy := Lib.hid (bnd12 HBy.out hb1)); have hS5 := (HC2.out _ HBy.out); clear hb1)
    | (go_at_call 10; (with_reducible refine (H3.out _ (bn12 HW.out (bn12 hY.out (by first | exact HBy.out | exact HBy.out.drew))) _ _ (HV8.out _ (by first | exact HBy.out | exact HBy.out.drew))).mono ?_); rintro e w6 ⟨rfl, hb1⟩; (first | have HBy := Lib.hid (bn12 HBy.out hb1) | have HBy := Lib.hid (bnd12 HBy.out hb1)); have hS6 := (HC2.out _ HBy.out); clear hb1))
  all_goals
    have hS := HC2.out _ HBy.out
    obtain ⟨hS7, hS8⟩ := hS
    obtain ⟨c1, c2⟩ := blk_cell12 hS8 2 rfl
    have HV9 : Hid (∀ x, At12 (World.setCell _ ⟨w2.heap.size, 2, none⟩ x) ({ u with pass := u.pass ++ ⟨#[120]⟩ } : Url12) A8 n c8) := Lib.hid fun x => ⟨rowS_segs (rowS_set (HR8.out.below HBy.out) (p := ⟨w2.heap.size, 2, none⟩) (Nat.lt_succ_self _) x), HN.out.1, HCc.out.1, HCc.out.2, HW2.out⟩
    go_wp2_with (go_at_call 14; (refine (H4.out _ (bn12 HW.out ((bn12 hY.out HBy.out).setCell (by simpa using hlW.out) _)) _ _ _ (HAt.out _ ((bn12 hY.out HBy.out).setCell (by simpa using hlW.out) _)) (HV9.out _)).mono ?_); rintro e w9 ⟨rfl, hb⟩; have HB9 := Lib.hid (bn12 ((bn12 hY.out HBy.out).setCell (by simpa using hlW.out) _) hb); clear hb)
    go_ret
    exact ⟨by simp, bn12 HW.out HB9.out⟩

theorem one12_3 {u : Url12} (hu : Nums12 u) : same12 u ({ u with kind := wrap64 (u.kind + 1) } : Url12) = false := decide_eq_false fun h => (fun h => wrap_ne12 hu.k0 hu.k1 ((IntWalk.i64_left _).symm ▸ h)) (h.2.2.2.1.1)
theorem wee12_3 {u : Url12} (h : Wee12 u) (hf : few12 u = true) : Wee12 ({ u with kind := wrap64 (u.kind + 1) } : Url12) := by
  have hF := of_decide_eq_true hf
  obtain ⟨f1, f2, f3, f4, f5, f6, f7, f8⟩ := hF
  exact ⟨⟨(wrap64_rng12 _).1, (wrap64_rng12 _).2, h.nums.p0, h.nums.p1, h.nums.v4, h.nums.v6⟩, (h.len), (h.segs), (h.scheme), (h.user), (h.pass), (h.name), (h.query), (h.frag)⟩
set_option maxHeartbeats 8000000 in
set_option maxRecDepth 100000 in
theorem law_one12_3 (u : Url12) (A : Option Addr) (n c : Nat) (k : Int) (w : World) (hs : Segs w A u.path) (hn : u.path.length = n) (hl : n ≤ maxLen) (hc : n ≤ c ∧ (A = none → c = 0)) (hf : Fits12 u) (hu : Nums12 u) (k0 : 0 ≤ k) (k1 : k ≤ 255) (C : RecC w) (hfew : few12 u = true) (hk : k % 8 = 3) :
    Calls Tryd.prog 5 #[.agg #[.string u.scheme, .string u.user, .string u.pass, .int .i64 u.kind, .string u.name, .int .u32 (u.v4 : Int), .int .u16 (u.a0 : Int), .int .u16 (u.a1 : Int), .int .u16 (u.a2 : Int), .int .u16 (u.a3 : Int), .int .u16 (u.a4 : Int), .int .u16 (u.a5 : Int), .int .u16 (u.a6 : Int), .int .u16 (u.a7 : Int), .int .i64 u.port, .bool u.opaq, .slice A n c, .bool u.hasQ, .string u.query, .bool u.hasF, .string u.frag], .int .u8 k] w (Yes12 w) := by
  have HC := Lib.hid C
  clear C
  obtain ⟨W, hW⟩ : ∃ W, (w.alloc (.cells #[.string u.scheme, .string u.user, .string u.pass, .int .i64 u.kind, .string u.name, .int .u32 (u.v4 : Int), .int .u16 (u.a0 : Int), .int .u16 (u.a1 : Int), .int .u16 (u.a2 : Int), .int .u16 (u.a3 : Int), .int .u16 (u.a4 : Int), .int .u16 (u.a5 : Int), .int .u16 (u.a6 : Int), .int .u16 (u.a7 : Int), .int .i64 u.port, .bool u.opaq, .slice A n c, .bool u.hasQ, .string u.query, .bool u.hasF, .string u.frag] 29)) = W := ⟨_, rfl⟩
  have HW : Hid (Below w.heap.size w W) := by show Below w.heap.size w W; rw [← hW]; exact bel12 _ _
  have HCs : Hid (∀ wx, Below W.heap.size W wx → blk12 wx w.heap.size = some (.cells #[.string u.scheme, .string u.user, .string u.pass, .int .i64 u.kind, .string u.name, .int .u32 (u.v4 : Int), .int .u16 (u.a0 : Int), .int .u16 (u.a1 : Int), .int .u16 (u.a2 : Int), .int .u16 (u.a3 : Int), .int .u16 (u.a4 : Int), .int .u16 (u.a5 : Int), .int .u16 (u.a6 : Int), .int .u16 (u.a7 : Int), .int .i64 u.port, .bool u.opaq, .slice A n c, .bool u.hasQ, .string u.query, .bool u.hasF, .string u.frag] 29 (0, 0))) := by
    show ∀ wx, Below W.heap.size W wx → _
    subst hW
    exact fun wx hb => ((cells12 (.string u.scheme) (.string u.user) (.string u.pass) (.int .i64 u.kind) (.string u.name) (.int .u32 (u.v4 : Int)) (.int .u16 (u.a0 : Int)) (.int .u16 (u.a1 : Int)) (.int .u16 (u.a2 : Int)) (.int .u16 (u.a3 : Int)) (.int .u16 (u.a4 : Int)) (.int .u16 (u.a5 : Int)) (.int .u16 (u.a6 : Int)) (.int .u16 (u.a7 : Int)) (.int .i64 u.port) (.bool u.opaq) (.slice A n c) (.bool u.hasQ) (.string u.query) (.bool u.hasF) (.string u.frag)) wx hb).1.out
  have HA : Hid (Calls Tryd.prog 8 #[] W (Yes12 W)) := awake12 (HC.out.behind HW.out)
  have HF := Lib.hid (fun wx (hb : Below W.heap.size W wx) => rfew_is hfew A n c hn hl wx (hs.below (bn12 HW.out hb)) hf)
  obtain ⟨g, hg⟩ : ∃ g, w.heap.size = g := ⟨_, rfl⟩
  have hgW : g < W.heap.size := by rw [← hW, ← hg]; simp
  have hwee := few12_wee hu hfew
  have HWee := Lib.hid hwee
  have hwee2 := wee12_3 hwee hfew
  have HSg := Lib.hid (fun wx (hb : Below W.heap.size W wx) => hs.below (bn12 HW.out hb))
  have HN := Lib.hid (And.intro hn hc.2)
  have hn50 : n ≤ 50 := by have := hwee.len; omega
  have HAt : Hid (∀ wx, Below W.heap.size W wx → At12 wx u A n c) := fun wx hb => ⟨hs.below (bn12 HW.out hb), hn, hc.1, hc.2, hwee⟩
  obtain ⟨t, ht⟩ : ∃ t, txt10 (text12 u false) = t := ⟨_, rfl⟩
  have H1 := Lib.hid (fun wx hb A8 c8 (ha : At12 wx u A n c) (he : At12 wx u A8 n c8) => csame12 HC.out (same12_self u) wx hb ha he)
  have H2 := Lib.hid (fun wx hb (ha : At12 wx u A n c) => ctext12 HC.out ht wx hb ha)
  have H3 := Lib.hid (fun wx hb A8 c8 (ha : At12 wx u A8 n c8) => ctext12 HC.out ht wx hb ha)
  have H4 := Lib.hid (fun wx hb A8 m8 c8 (ha : At12 wx u A n c) (he : At12 wx ({ u with kind := wrap64 (u.kind + 1) } : Url12) A8 m8 c8) => csame12 HC.out (one12_3 hu) wx hb ha he)
  rw [hg] at HCs
  have HgW := Lib.hid hgW
  have HW2 := Lib.hid hwee2
  have hk2 : k.tmod 8 = 3 := by rw [Int.tmod_eq_emod_of_nonneg k0]; exact hk
  have z1 := hwee.scheme; have z2 := hwee.user; have z3 := hwee.pass
  clear ht hfew hs hn hl hc hf hu hwee hgW hwee2
  go_enter Tryd.func5, Tryd.ntmps5
  go_wp2_with (first
    | (go_at_call 8; (try rw [hW]); refine HA.out.mono ?_; rintro e w1 ⟨rfl, hb⟩; have HBc := Lib.hid hb; (try rw [hg]); have s0 := HCs.out _ hb; clear hb)
    | (go_at_call 9; (with_reducible refine (HF.out _ HBc.out).mono ?_); rintro e w2 ⟨rfl, hb⟩; have HBc := Lib.hid (bn12 HBc.out hb); clear s0; have s0 := HCs.out _ HBc.out; have hlt := Nat.lt_of_lt_of_le HgW.out HBc.out.size; have q6 := (blk_cell12 s0 16 rfl).1; have hlW := Lib.hid HBc.out.size; clear hb)
    | (at_builtin
       refine append_segs rfl (.tmp 14) (.tmp 16) rfl (w2.heap.size + 1) _ [] A n c u.path rfl rfl (rowS_at (by simp only [World.size_alloc])) (HSg.out _ (bn12 HBc.out (bn12 (bel12 _ _) (bel12 _ _)))) HN.out.1.symm HN.out.2 (by have := HN.out.1; simp; omega) (by simp only [World.size_alloc]; omega) ?_
       intro v3 w3 hr3 hb3
       have hr4 := rowS_set hr3 (p := ⟨w2.heap.size, 16, none⟩) (Nat.lt_succ_self _) v3
       obtain ⟨A8, c8, hv8, hcc8, hs8⟩ := hr4.segs
       rw [List.nil_append] at hr4
       rw [List.nil_append, HN.out.1] at hv8 hcc8
       rw [List.nil_append] at hs8
       subst hv8
       have hB3 : Below (w2.heap.size + 1) ((w2.alloc (.cells #[.string u.scheme, .string u.user, .string u.pass, .int .i64 u.kind, .string u.name, .int .u32 (u.v4 : Int), .int .u16 (u.a0 : Int), .int .u16 (u.a1 : Int), .int .u16 (u.a2 : Int), .int .u16 (u.a3 : Int), .int .u16 (u.a4 : Int), .int .u16 (u.a5 : Int), .int .u16 (u.a6 : Int), .int .u16 (u.a7 : Int), .int .i64 u.port, .bool u.opaq, .slice A n c, .bool u.hasQ, .string u.query, .bool u.hasF, .string u.frag] 29)).alloc (.cells #[] 9)) w3 := hb3
       have hX : Below w2.heap.size w2 w3 := (bn12 (bel12 w2 (.cells #[.string u.scheme, .string u.user, .string u.pass, .int .i64 u.kind, .string u.name, .int .u32 (u.v4 : Int), .int .u16 (u.a0 : Int), .int .u16 (u.a1 : Int), .int .u16 (u.a2 : Int), .int .u16 (u.a3 : Int), .int .u16 (u.a4 : Int), .int .u16 (u.a5 : Int), .int .u16 (u.a6 : Int), .int .u16 (u.a7 : Int), .int .i64 u.port, .bool u.opaq, .slice A n c, .bool u.hasQ, .string u.query, .bool u.hasF, .string u.frag] 29)) (bel12 _ (.cells #[] 9))).trans (hB3.mono (by omega))
       have hg1 : blk12 w3 w2.heap.size = some (.cells #[.string u.scheme, .string u.user, .string u.pass, .int .i64 u.kind, .string u.name, .int .u32 (u.v4 : Int), .int .u16 (u.a0 : Int), .int .u16 (u.a1 : Int), .int .u16 (u.a2 : Int), .int .u16 (u.a3 : Int), .int .u16 (u.a4 : Int), .int .u16 (u.a5 : Int), .int .u16 (u.a6 : Int), .int .u16 (u.a7 : Int), .int .i64 u.port, .bool u.opaq, .slice A n c, .bool u.hasQ, .string u.query, .bool u.hasF, .string u.frag] 29 (0, 0)) := (hB3.block w2.heap.size (by omega)).trans ((heap_old12 _ _ _ (by simp)).trans (heap_here12 _ _ _ rfl))
       have hY : Hid (Below W.heap.size W (w3.setCell ⟨w2.heap.size, 16, none⟩ (.slice A8 n c8))) := (bn12 HBc.out hX).setCell (by simpa using HBc.out.size) _
       have hU : blk12 (w3.setCell ⟨w2.heap.size, 16, none⟩ (.slice A8 n c8)) g = some (.cells #[.string u.scheme, .string u.user, .string u.pass, .int .i64 u.kind, .string u.name, .int .u32 (u.v4 : Int), .int .u16 (u.a0 : Int), .int .u16 (u.a1 : Int), .int .u16 (u.a2 : Int), .int .u16 (u.a3 : Int), .int .u16 (u.a4 : Int), .int .u16 (u.a5 : Int), .int .u16 (u.a6 : Int), .int .u16 (u.a7 : Int), .int .i64 u.port, .bool u.opaq, .slice A n c, .bool u.hasQ, .string u.query, .bool u.hasF, .string u.frag] 29 (0, 0)) := (heap_other12 _ _ _ _ _ (Nat.ne_of_gt hlt)).trans (HCs.out _ (bn12 HBc.out hX))
       have hV : blk12 (w3.setCell ⟨w2.heap.size, 16, none⟩ (.slice A8 n c8)) w2.heap.size = some (.cells #[.string u.scheme, .string u.user, .string u.pass, .int .i64 u.kind, .string u.name, .int .u32 (u.v4 : Int), .int .u16 (u.a0 : Int), .int .u16 (u.a1 : Int), .int .u16 (u.a2 : Int), .int .u16 (u.a3 : Int), .int .u16 (u.a4 : Int), .int .u16 (u.a5 : Int), .int .u16 (u.a6 : Int), .int .u16 (u.a7 : Int), .int .i64 u.port, .bool u.opaq, .slice A8 n c8, .bool u.hasQ, .string u.query, .bool u.hasF, .string u.frag] 29 (0, 0)) := (heap_put12 _ _ _ _).trans (by rw [hg1]; rfl)
       have HC2 : Hid (∀ wx, Below ((w3.setCell ⟨w2.heap.size, 16, none⟩ (.slice A8 n c8))).heap.size (w3.setCell ⟨w2.heap.size, 16, none⟩ (.slice A8 n c8)) wx → blk12 wx g = some (.cells #[.string u.scheme, .string u.user, .string u.pass, .int .i64 u.kind, .string u.name, .int .u32 (u.v4 : Int), .int .u16 (u.a0 : Int), .int .u16 (u.a1 : Int), .int .u16 (u.a2 : Int), .int .u16 (u.a3 : Int), .int .u16 (u.a4 : Int), .int .u16 (u.a5 : Int), .int .u16 (u.a6 : Int), .int .u16 (u.a7 : Int), .int .i64 u.port, .bool u.opaq, .slice A n c, .bool u.hasQ, .string u.query, .bool u.hasF, .string u.frag] 29 (0, 0)) ∧ blk12 wx w2.heap.size = some (.cells #[.string u.scheme, .string u.user, .string u.pass, .int .i64 u.kind, .string u.name, .int .u32 (u.v4 : Int), .int .u16 (u.a0 : Int), .int .u16 (u.a1 : Int), .int .u16 (u.a2 : Int), .int .u16 (u.a3 : Int), .int .u16 (u.a4 : Int), .int .u16 (u.a5 : Int), .int .u16 (u.a6 : Int), .int .u16 (u.a7 : Int), .int .i64 u.port, .bool u.opaq, .slice A8 n c8, .bool u.hasQ, .string u.query, .bool u.hasF, .string u.frag] 29 (0, 0))) := Lib.hid fun wx hb => ⟨blk_below12 hU hb, blk_below12 hV hb⟩
       have HV8 : Hid (∀ wx, Below ((w3.setCell ⟨w2.heap.size, 16, none⟩ (.slice A8 n c8))).heap.size (w3.setCell ⟨w2.heap.size, 16, none⟩ (.slice A8 n c8)) wx → At12 wx u A8 n c8) := Lib.hid fun wx hb => ⟨hs8.below hb, HN.out.1, hcc8.1, hcc8.2, HWee.out⟩
       have HBy := Lib.hid (Below.refl ((w3.setCell ⟨w2.heap.size, 16, none⟩ (.slice A8 n c8))).heap.size (w3.setCell ⟨w2.heap.size, 16, none⟩ (.slice A8 n c8)))
       have hB16 : Hid (w2.heap.size + 1 ≤ ((w3.setCell ⟨w2.heap.size, 16, none⟩ (.slice A8 n c8))).heap.size) := by
         show _ ≤ _
         have := hb3.size
         simp only [World.size_alloc, World.size_setCell] at this ⊢
         omega
       have HR8 : Hid (RowS (w2.heap.size + 1) (w3.setCell ⟨w2.heap.size, 16, none⟩ (.slice A8 n c8)) (.slice A8 n c8) u.path) := hr4
       have HCc := Lib.hid hcc8
       have s1 := And.intro hU hV
       have hne : w2.heap.size ≠ g := Nat.ne_of_gt hlt
       have q8 := (blk_cell12 hg1 16 rfl)
       obtain ⟨q8, q9⟩ := q8
       clear hr3 hr4 hb3 hs8 hcc8 hB3 hX hg1 hU hV s0))
  clear hW hg
  go_region_held3 (fun wx => blk12 wx g = some (.cells #[.string u.scheme, .string u.user, .string u.pass, .int .i64 u.kind, .string u.name, .int .u32 (u.v4 : Int), .int .u16 (u.a0 : Int), .int .u16 (u.a1 : Int), .int .u16 (u.a2 : Int), .int .u16 (u.a3 : Int), .int .u16 (u.a4 : Int), .int .u16 (u.a5 : Int), .int .u16 (u.a6 : Int), .int .u16 (u.a7 : Int), .int .i64 u.port, .bool u.opaq, .slice A n c, .bool u.hasQ, .string u.query, .bool u.hasF, .string u.frag] 29 (0, 0)) ∧ blk12 wx w2.heap.size = some (.cells #[.string u.scheme, .string u.user, .string u.pass, .int .i64 u.kind, .string u.name, .int .u32 (u.v4 : Int), .int .u16 (u.a0 : Int), .int .u16 (u.a1 : Int), .int .u16 (u.a2 : Int), .int .u16 (u.a3 : Int), .int .u16 (u.a4 : Int), .int .u16 (u.a5 : Int), .int .u16 (u.a6 : Int), .int .u16 (u.a7 : Int), .int .i64 u.port, .bool u.opaq, .slice A8 n c8, .bool u.hasQ, .string u.query, .bool u.hasF, .string u.frag] 29 (0, 0))) (first | exact s1 | exact hS4 | exact hS5 | exact hS6 | go_keep) (first
    | (go_at_call 14; (with_reducible refine (H1.out _ (bn12 HW.out (bn12 hY.out (by first | exact HBy.out | exact HBy.out.drew))) _ _ (HAt.out _ (bn12 hY.out (by first | exact HBy.out | exact HBy.out.drew))) (HV8.out _ (by first | exact HBy.out | exact HBy.out.drew))).mono ?_); rintro e w4 ⟨rfl, hb1⟩; (first | have HBy := Lib.hid (bn12 HBy.out hb1) | have HBy := Lib.hid (bnd12 HBy.out hb1)); have hS4 := (HC2.out _ HBy.out); clear hb1)
    | (go_at_call 10; (with_reducible refine (H2.out _ (bn12 HW.out (bn12 hY.out (by first | exact HBy.out | exact HBy.out.drew))) (HAt.out _ (bn12 hY.out (by first | exact HBy.out | exact HBy.out.drew)))).mono ?_); rintro e w5 ⟨rfl, hb1⟩; (first | have HBy := Lib.hid (bn12 HBy.out hb1) | have HBy := Lib.hid (bnd12 HBy.out hb1)); have hS5 := (HC2.out _ HBy.out); clear hb1)
    | (go_at_call 10; (with_reducible refine (H3.out _ (bn12 HW.out (bn12 hY.out (by first | exact HBy.out | exact HBy.out.drew))) _ _ (HV8.out _ (by first | exact HBy.out | exact HBy.out.drew))).mono ?_); rintro e w6 ⟨rfl, hb1⟩; (first | have HBy := Lib.hid (bn12 HBy.out hb1) | have HBy := Lib.hid (bnd12 HBy.out hb1)); have hS6 := (HC2.out _ HBy.out); clear hb1))
  all_goals
    have hS := HC2.out _ HBy.out
    obtain ⟨hS7, hS8⟩ := hS
    obtain ⟨c1, c2⟩ := blk_cell12 hS8 3 rfl
    have HV9 : Hid (∀ x, At12 (World.setCell _ ⟨w2.heap.size, 3, none⟩ x) ({ u with kind := wrap64 (u.kind + 1) } : Url12) A8 n c8) := Lib.hid fun x => ⟨rowS_segs (rowS_set (HR8.out.below HBy.out) (p := ⟨w2.heap.size, 3, none⟩) (Nat.lt_succ_self _) x), HN.out.1, HCc.out.1, HCc.out.2, HW2.out⟩
    go_wp2_with (go_at_call 14; (refine (H4.out _ (bn12 HW.out ((bn12 hY.out HBy.out).setCell (by simpa using hlW.out) _)) _ _ _ (HAt.out _ ((bn12 hY.out HBy.out).setCell (by simpa using hlW.out) _)) (HV9.out _)).mono ?_); rintro e w9 ⟨rfl, hb⟩; have HB9 := Lib.hid (bn12 ((bn12 hY.out HBy.out).setCell (by simpa using hlW.out) _) hb); clear hb)
    go_ret
    exact ⟨by simp, bn12 HW.out HB9.out⟩
end Go.Proofs.YtliklhldlofnjaaDoor

/-
  The law RecordOne of layer 12, over the program's contracts (written by mkrec.py).
-/
namespace Go.Proofs.YtliklhldlofnjaaDoor
open Go.RowKit
attribute [local go_sem ↓] foldL12 foldS12
attribute [local go_sem] loadU_run viaRow_cells storeU_run viaStore_cells setRow_here12 heap_here12 heap_old12 heap_put12 put12_cells heap_other12 blk_drew12


theorem one12_4 {u : Url12} (hu : Nums12 u) : same12 u ({ u with port := xor12 u.port } : Url12) = false := decide_eq_false fun h => (fun h => xor_ne12 h) (h.2.2.2.2.1)
theorem wee12_4 {u : Url12} (h : Wee12 u) (hf : few12 u = true) : Wee12 ({ u with port := xor12 u.port } : Url12) := by
  have hF := of_decide_eq_true hf
  obtain ⟨f1, f2, f3, f4, f5, f6, f7, f8⟩ := hF
  exact ⟨⟨h.nums.k0, h.nums.k1, (xor_rng12 _).1, (xor_rng12 _).2, h.nums.v4, h.nums.v6⟩, (h.len), (h.segs), (h.scheme), (h.user), (h.pass), (h.name), (h.query), (h.frag)⟩
set_option maxHeartbeats 8000000 in
set_option maxRecDepth 100000 in
theorem law_one12_4 (u : Url12) (A : Option Addr) (n c : Nat) (k : Int) (w : World) (hs : Segs w A u.path) (hn : u.path.length = n) (hl : n ≤ maxLen) (hc : n ≤ c ∧ (A = none → c = 0)) (hf : Fits12 u) (hu : Nums12 u) (k0 : 0 ≤ k) (k1 : k ≤ 255) (C : RecC w) (hfew : few12 u = true) (hk : k % 8 = 4) :
    Calls Tryd.prog 5 #[.agg #[.string u.scheme, .string u.user, .string u.pass, .int .i64 u.kind, .string u.name, .int .u32 (u.v4 : Int), .int .u16 (u.a0 : Int), .int .u16 (u.a1 : Int), .int .u16 (u.a2 : Int), .int .u16 (u.a3 : Int), .int .u16 (u.a4 : Int), .int .u16 (u.a5 : Int), .int .u16 (u.a6 : Int), .int .u16 (u.a7 : Int), .int .i64 u.port, .bool u.opaq, .slice A n c, .bool u.hasQ, .string u.query, .bool u.hasF, .string u.frag], .int .u8 k] w (Yes12 w) := by
  have HC := Lib.hid C
  clear C
  obtain ⟨W, hW⟩ : ∃ W, (w.alloc (.cells #[.string u.scheme, .string u.user, .string u.pass, .int .i64 u.kind, .string u.name, .int .u32 (u.v4 : Int), .int .u16 (u.a0 : Int), .int .u16 (u.a1 : Int), .int .u16 (u.a2 : Int), .int .u16 (u.a3 : Int), .int .u16 (u.a4 : Int), .int .u16 (u.a5 : Int), .int .u16 (u.a6 : Int), .int .u16 (u.a7 : Int), .int .i64 u.port, .bool u.opaq, .slice A n c, .bool u.hasQ, .string u.query, .bool u.hasF, .string u.frag] 29)) = W := ⟨_, rfl⟩
  have HW : Hid (Below w.heap.size w W) := by show Below w.heap.size w W; rw [← hW]; exact bel12 _ _
  have HCs : Hid (∀ wx, Below W.heap.size W wx → blk12 wx w.heap.size = some (.cells #[.string u.scheme, .string u.user, .string u.pass, .int .i64 u.kind, .string u.name, .int .u32 (u.v4 : Int), .int .u16 (u.a0 : Int), .int .u16 (u.a1 : Int), .int .u16 (u.a2 : Int), .int .u16 (u.a3 : Int), .int .u16 (u.a4 : Int), .int .u16 (u.a5 : Int), .int .u16 (u.a6 : Int), .int .u16 (u.a7 : Int), .int .i64 u.port, .bool u.opaq, .slice A n c, .bool u.hasQ, .string u.query, .bool u.hasF, .string u.frag] 29 (0, 0))) := by
    show ∀ wx, Below W.heap.size W wx → _
    subst hW
    exact fun wx hb => ((cells12 (.string u.scheme) (.string u.user) (.string u.pass) (.int .i64 u.kind) (.string u.name) (.int .u32 (u.v4 : Int)) (.int .u16 (u.a0 : Int)) (.int .u16 (u.a1 : Int)) (.int .u16 (u.a2 : Int)) (.int .u16 (u.a3 : Int)) (.int .u16 (u.a4 : Int)) (.int .u16 (u.a5 : Int)) (.int .u16 (u.a6 : Int)) (.int .u16 (u.a7 : Int)) (.int .i64 u.port) (.bool u.opaq) (.slice A n c) (.bool u.hasQ) (.string u.query) (.bool u.hasF) (.string u.frag)) wx hb).1.out
  have HA : Hid (Calls Tryd.prog 8 #[] W (Yes12 W)) := awake12 (HC.out.behind HW.out)
  have HF := Lib.hid (fun wx (hb : Below W.heap.size W wx) => rfew_is hfew A n c hn hl wx (hs.below (bn12 HW.out hb)) hf)
  obtain ⟨g, hg⟩ : ∃ g, w.heap.size = g := ⟨_, rfl⟩
  have hgW : g < W.heap.size := by rw [← hW, ← hg]; simp
  have hwee := few12_wee hu hfew
  have HWee := Lib.hid hwee
  have hwee2 := wee12_4 hwee hfew
  have HSg := Lib.hid (fun wx (hb : Below W.heap.size W wx) => hs.below (bn12 HW.out hb))
  have HN := Lib.hid (And.intro hn hc.2)
  have hn50 : n ≤ 50 := by have := hwee.len; omega
  have HAt : Hid (∀ wx, Below W.heap.size W wx → At12 wx u A n c) := fun wx hb => ⟨hs.below (bn12 HW.out hb), hn, hc.1, hc.2, hwee⟩
  obtain ⟨t, ht⟩ : ∃ t, txt10 (text12 u false) = t := ⟨_, rfl⟩
  have H1 := Lib.hid (fun wx hb A8 c8 (ha : At12 wx u A n c) (he : At12 wx u A8 n c8) => csame12 HC.out (same12_self u) wx hb ha he)
  have H2 := Lib.hid (fun wx hb (ha : At12 wx u A n c) => ctext12 HC.out ht wx hb ha)
  have H3 := Lib.hid (fun wx hb A8 c8 (ha : At12 wx u A8 n c8) => ctext12 HC.out ht wx hb ha)
  have H4 := Lib.hid (fun wx hb A8 m8 c8 (ha : At12 wx u A n c) (he : At12 wx ({ u with port := xor12 u.port } : Url12) A8 m8 c8) => csame12 HC.out (one12_4 hu) wx hb ha he)
  rw [hg] at HCs
  have HgW := Lib.hid hgW
  have HW2 := Lib.hid hwee2
  have hk2 : k.tmod 8 = 4 := by rw [Int.tmod_eq_emod_of_nonneg k0]; exact hk
  have z1 := hwee.scheme; have z2 := hwee.user; have z3 := hwee.pass
  clear ht hfew hs hn hl hc hf hu hwee hgW hwee2
  go_enter Tryd.func5, Tryd.ntmps5
  go_wp2_with (first
    | (go_at_call 8; (try rw [hW]); refine HA.out.mono ?_; rintro e w1 ⟨rfl, hb⟩; have HBc := Lib.hid hb; (try rw [hg]); have s0 := HCs.out _ hb; clear hb)
    | (go_at_call 9; (with_reducible refine (HF.out _ HBc.out).mono ?_); rintro e w2 ⟨rfl, hb⟩; have HBc := Lib.hid (bn12 HBc.out hb); clear s0; have s0 := HCs.out _ HBc.out; have hlt := Nat.lt_of_lt_of_le HgW.out HBc.out.size; have q6 := (blk_cell12 s0 16 rfl).1; have hlW := Lib.hid HBc.out.size; clear hb)
    | (at_builtin
       refine append_segs rfl (.tmp 14) (.tmp 16) rfl (w2.heap.size + 1) _ [] A n c u.path rfl rfl (rowS_at (by simp only [World.size_alloc])) (HSg.out _ (bn12 HBc.out (bn12 (bel12 _ _) (bel12 _ _)))) HN.out.1.symm HN.out.2 (by have := HN.out.1; simp; omega) (by simp only [World.size_alloc]; omega) ?_
       intro v3 w3 hr3 hb3
       have hr4 := rowS_set hr3 (p := ⟨w2.heap.size, 16, none⟩) (Nat.lt_succ_self _) v3
       obtain ⟨A8, c8, hv8, hcc8, hs8⟩ := hr4.segs
       rw [List.nil_append] at hr4
       rw [List.nil_append, HN.out.1] at hv8 hcc8
       rw [List.nil_append] at hs8
       subst hv8
       have hB3 : Below (w2.heap.size + 1) ((w2.alloc (.cells #[.string u.scheme, .string u.user, .string u.pass, .int .i64 u.kind, .string u.name, .int .u32 (u.v4 : Int), .int .u16 (u.a0 : Int), .int .u16 (u.a1 : Int), .int .u16 (u.a2 : Int), .int .u16 (u.a3 : Int), .int .u16 (u.a4 : Int), .int .u16 (u.a5 : Int), .int .u16 (u.a6 : Int), .int .u16 (u.a7 : Int), .int .i64 u.port, .bool u.opaq, .slice A n c, .bool u.hasQ, .string u.query, .bool u.hasF, .string u.frag] 29)).alloc (.cells #[] 9)) w3 := hb3
       have hX : Below w2.heap.size w2 w3 := (bn12 (bel12 w2 (.cells #[.string u.scheme, .string u.user, .string u.pass, .int .i64 u.kind, .string u.name, .int .u32 (u.v4 : Int), .int .u16 (u.a0 : Int), .int .u16 (u.a1 : Int), .int .u16 (u.a2 : Int), .int .u16 (u.a3 : Int), .int .u16 (u.a4 : Int), .int .u16 (u.a5 : Int), .int .u16 (u.a6 : Int), .int .u16 (u.a7 : Int), .int .i64 u.port, .bool u.opaq, .slice A n c, .bool u.hasQ, .string u.query, .bool u.hasF, .string u.frag] 29)) (bel12 _ (.cells #[] 9))).trans (hB3.mono (by omega))
       have hg1 : blk12 w3 w2.heap.size = some (.cells #[.string u.scheme, .string u.user, .string u.pass, .int .i64 u.kind, .string u.name, .int .u32 (u.v4 : Int), .int .u16 (u.a0 : Int), .int .u16 (u.a1 : Int), .int .u16 (u.a2 : Int), .int .u16 (u.a3 : Int), .int .u16 (u.a4 : Int), .int .u16 (u.a5 : Int), .int .u16 (u.a6 : Int), .int .u16 (u.a7 : Int), .int .i64 u.port, .bool u.opaq, .slice A n c, .bool u.hasQ, .string u.query, .bool u.hasF, .string u.frag] 29 (0, 0)) := (hB3.block w2.heap.size (by omega)).trans ((heap_old12 _ _ _ (by simp)).trans (heap_here12 _ _ _ rfl))
       have hY : Hid (Below W.heap.size W (w3.setCell ⟨w2.heap.size, 16, none⟩ (.slice A8 n c8))) := (bn12 HBc.out hX).setCell (by simpa using HBc.out.size) _
       have hU : blk12 (w3.setCell ⟨w2.heap.size, 16, none⟩ (.slice A8 n c8)) g = some (.cells #[.string u.scheme, .string u.user, .string u.pass, .int .i64 u.kind, .string u.name, .int .u32 (u.v4 : Int), .int .u16 (u.a0 : Int), .int .u16 (u.a1 : Int), .int .u16 (u.a2 : Int), .int .u16 (u.a3 : Int), .int .u16 (u.a4 : Int), .int .u16 (u.a5 : Int), .int .u16 (u.a6 : Int), .int .u16 (u.a7 : Int), .int .i64 u.port, .bool u.opaq, .slice A n c, .bool u.hasQ, .string u.query, .bool u.hasF, .string u.frag] 29 (0, 0)) := (heap_other12 _ _ _ _ _ (Nat.ne_of_gt hlt)).trans (HCs.out _ (bn12 HBc.out hX))
       have hV : blk12 (w3.setCell ⟨w2.heap.size, 16, none⟩ (.slice A8 n c8)) w2.heap.size = some (.cells #[.string u.scheme, .string u.user, .string u.pass, .int .i64 u.kind, .string u.name, .int .u32 (u.v4 : Int), .int .u16 (u.a0 : Int), .int .u16 (u.a1 : Int), .int .u16 (u.a2 : Int), .int .u16 (u.a3 : Int), .int .u16 (u.a4 : Int), .int .u16 (u.a5 : Int), .int .u16 (u.a6 : Int), .int .u16 (u.a7 : Int), .int .i64 u.port, .bool u.opaq, .slice A8 n c8, .bool u.hasQ, .string u.query, .bool u.hasF, .string u.frag] 29 (0, 0)) := (heap_put12 _ _ _ _).trans (by rw [hg1]; rfl)
       have HC2 : Hid (∀ wx, Below ((w3.setCell ⟨w2.heap.size, 16, none⟩ (.slice A8 n c8))).heap.size (w3.setCell ⟨w2.heap.size, 16, none⟩ (.slice A8 n c8)) wx → blk12 wx g = some (.cells #[.string u.scheme, .string u.user, .string u.pass, .int .i64 u.kind, .string u.name, .int .u32 (u.v4 : Int), .int .u16 (u.a0 : Int), .int .u16 (u.a1 : Int), .int .u16 (u.a2 : Int), .int .u16 (u.a3 : Int), .int .u16 (u.a4 : Int), .int .u16 (u.a5 : Int), .int .u16 (u.a6 : Int), .int .u16 (u.a7 : Int), .int .i64 u.port, .bool u.opaq, .slice A n c, .bool u.hasQ, .string u.query, .bool u.hasF, .string u.frag] 29 (0, 0)) ∧ blk12 wx w2.heap.size = some (.cells #[.string u.scheme, .string u.user, .string u.pass, .int .i64 u.kind, .string u.name, .int .u32 (u.v4 : Int), .int .u16 (u.a0 : Int), .int .u16 (u.a1 : Int), .int .u16 (u.a2 : Int), .int .u16 (u.a3 : Int), .int .u16 (u.a4 : Int), .int .u16 (u.a5 : Int), .int .u16 (u.a6 : Int), .int .u16 (u.a7 : Int), .int .i64 u.port, .bool u.opaq, .slice A8 n c8, .bool u.hasQ, .string u.query, .bool u.hasF, .string u.frag] 29 (0, 0))) := Lib.hid fun wx hb => ⟨blk_below12 hU hb, blk_below12 hV hb⟩
       have HV8 : Hid (∀ wx, Below ((w3.setCell ⟨w2.heap.size, 16, none⟩ (.slice A8 n c8))).heap.size (w3.setCell ⟨w2.heap.size, 16, none⟩ (.slice A8 n c8)) wx → At12 wx u A8 n c8) := Lib.hid fun wx hb => ⟨hs8.below hb, HN.out.1, hcc8.1, hcc8.2, HWee.out⟩
       have HBy := Lib.hid (Below.refl ((w3.setCell ⟨w2.heap.size, 16, none⟩ (.slice A8 n c8))).heap.size (w3.setCell ⟨w2.heap.size, 16, none⟩ (.slice A8 n c8)))
       have hB16 : Hid (w2.heap.size + 1 ≤ ((w3.setCell ⟨w2.heap.size, 16, none⟩ (.slice A8 n c8))).heap.size) := by
         show _ ≤ _
         have := hb3.size
         simp only [World.size_alloc, World.size_setCell] at this ⊢
         omega
       have HR8 : Hid (RowS (w2.heap.size + 1) (w3.setCell ⟨w2.heap.size, 16, none⟩ (.slice A8 n c8)) (.slice A8 n c8) u.path) := hr4
       have HCc := Lib.hid hcc8
       have s1 := And.intro hU hV
       have hne : w2.heap.size ≠ g := Nat.ne_of_gt hlt
       have q8 := (blk_cell12 hg1 16 rfl)
       obtain ⟨q8, q9⟩ := q8
       clear hr3 hr4 hb3 hs8 hcc8 hB3 hX hg1 hU hV s0))
  clear hW hg
  go_region_held3 (fun wx => blk12 wx g = some (.cells #[.string u.scheme, .string u.user, .string u.pass, .int .i64 u.kind, .string u.name, .int .u32 (u.v4 : Int), .int .u16 (u.a0 : Int), .int .u16 (u.a1 : Int), .int .u16 (u.a2 : Int), .int .u16 (u.a3 : Int), .int .u16 (u.a4 : Int), .int .u16 (u.a5 : Int), .int .u16 (u.a6 : Int), .int .u16 (u.a7 : Int), .int .i64 u.port, .bool u.opaq, .slice A n c, .bool u.hasQ, .string u.query, .bool u.hasF, .string u.frag] 29 (0, 0)) ∧ blk12 wx w2.heap.size = some (.cells #[.string u.scheme, .string u.user, .string u.pass, .int .i64 u.kind, .string u.name, .int .u32 (u.v4 : Int), .int .u16 (u.a0 : Int), .int .u16 (u.a1 : Int), .int .u16 (u.a2 : Int), .int .u16 (u.a3 : Int), .int .u16 (u.a4 : Int), .int .u16 (u.a5 : Int), .int .u16 (u.a6 : Int), .int .u16 (u.a7 : Int), .int .i64 u.port, .bool u.opaq, .slice A8 n c8, .bool u.hasQ, .string u.query, .bool u.hasF, .string u.frag] 29 (0, 0))) (first | exact s1 | exact hS4 | exact hS5 | exact hS6 | go_keep) (first
    | (go_at_call 14; (with_reducible refine (H1.out _ (bn12 HW.out (bn12 hY.out (by first | exact HBy.out | exact HBy.out.drew))) _ _ (HAt.out _ (bn12 hY.out (by first | exact HBy.out | exact HBy.out.drew))) (HV8.out _ (by first | exact HBy.out | exact HBy.out.drew))).mono ?_); rintro e w4 ⟨rfl, hb1⟩; (first | have HBy := Lib.hid (bn12 HBy.out hb1) | have HBy := Lib.hid (bnd12 HBy.out hb1)); have hS4 := (HC2.out _ HBy.out); clear hb1)
    | (go_at_call 10; (with_reducible refine (H2.out _ (bn12 HW.out (bn12 hY.out (by first | exact HBy.out | exact HBy.out.drew))) (HAt.out _ (bn12 hY.out (by first | exact HBy.out | exact HBy.out.drew)))).mono ?_); rintro e w5 ⟨rfl, hb1⟩; (first | have HBy := Lib.hid (bn12 HBy.out hb1) | have HBy := Lib.hid (bnd12 HBy.out hb1)); have hS5 := (HC2.out _ HBy.out); clear hb1)
    | (go_at_call 10; (with_reducible refine (H3.out _ (bn12 HW.out (bn12 hY.out (by first | exact HBy.out | exact HBy.out.drew))) _ _ (HV8.out _ (by first | exact HBy.out | exact HBy.out.drew))).mono ?_); rintro e w6 ⟨rfl, hb1⟩; (first | have HBy := Lib.hid (bn12 HBy.out hb1) | have HBy := Lib.hid (bnd12 HBy.out hb1)); have hS6 := (HC2.out _ HBy.out); clear hb1))
  all_goals
    have hS := HC2.out _ HBy.out
    obtain ⟨hS7, hS8⟩ := hS
    obtain ⟨c1, c2⟩ := blk_cell12 hS8 14 rfl
    have HV9 : Hid (∀ x, At12 (World.setCell _ ⟨w2.heap.size, 14, none⟩ x) ({ u with port := xor12 u.port } : Url12) A8 n c8) := Lib.hid fun x => ⟨rowS_segs (rowS_set (HR8.out.below HBy.out) (p := ⟨w2.heap.size, 14, none⟩) (Nat.lt_succ_self _) x), HN.out.1, HCc.out.1, HCc.out.2, HW2.out⟩
    go_wp2_with (go_at_call 14; (refine (H4.out _ (bn12 HW.out ((bn12 hY.out HBy.out).setCell (by simpa using hlW.out) _)) _ _ _ (HAt.out _ ((bn12 hY.out HBy.out).setCell (by simpa using hlW.out) _)) (HV9.out _)).mono ?_); rintro e w9 ⟨rfl, hb⟩; have HB9 := Lib.hid (bn12 ((bn12 hY.out HBy.out).setCell (by simpa using hlW.out) _) hb); clear hb)
    go_ret
    exact ⟨by simp, bn12 HW.out HB9.out⟩

theorem one12_6 {u : Url12} (hu : Nums12 u) : same12 u ({ u with hasQ := !u.hasQ } : Url12) = false := decide_eq_false fun h => (fun h => by have h2 : u.hasQ = !u.hasQ := h; revert h2; cases u.hasQ <;> decide) (h.2.2.2.2.2.2.2.1)
theorem wee12_6 {u : Url12} (h : Wee12 u) (hf : few12 u = true) : Wee12 ({ u with hasQ := !u.hasQ } : Url12) := by
  have hF := of_decide_eq_true hf
  obtain ⟨f1, f2, f3, f4, f5, f6, f7, f8⟩ := hF
  exact ⟨⟨h.nums.k0, h.nums.k1, h.nums.p0, h.nums.p1, h.nums.v4, h.nums.v6⟩, (h.len), (h.segs), (h.scheme), (h.user), (h.pass), (h.name), (h.query), (h.frag)⟩
set_option maxHeartbeats 8000000 in
set_option maxRecDepth 100000 in
theorem law_one12_6 (u : Url12) (A : Option Addr) (n c : Nat) (k : Int) (w : World) (hs : Segs w A u.path) (hn : u.path.length = n) (hl : n ≤ maxLen) (hc : n ≤ c ∧ (A = none → c = 0)) (hf : Fits12 u) (hu : Nums12 u) (k0 : 0 ≤ k) (k1 : k ≤ 255) (C : RecC w) (hfew : few12 u = true) (hk : k % 8 = 6) :
    Calls Tryd.prog 5 #[.agg #[.string u.scheme, .string u.user, .string u.pass, .int .i64 u.kind, .string u.name, .int .u32 (u.v4 : Int), .int .u16 (u.a0 : Int), .int .u16 (u.a1 : Int), .int .u16 (u.a2 : Int), .int .u16 (u.a3 : Int), .int .u16 (u.a4 : Int), .int .u16 (u.a5 : Int), .int .u16 (u.a6 : Int), .int .u16 (u.a7 : Int), .int .i64 u.port, .bool u.opaq, .slice A n c, .bool u.hasQ, .string u.query, .bool u.hasF, .string u.frag], .int .u8 k] w (Yes12 w) := by
  have HC := Lib.hid C
  clear C
  obtain ⟨W, hW⟩ : ∃ W, (w.alloc (.cells #[.string u.scheme, .string u.user, .string u.pass, .int .i64 u.kind, .string u.name, .int .u32 (u.v4 : Int), .int .u16 (u.a0 : Int), .int .u16 (u.a1 : Int), .int .u16 (u.a2 : Int), .int .u16 (u.a3 : Int), .int .u16 (u.a4 : Int), .int .u16 (u.a5 : Int), .int .u16 (u.a6 : Int), .int .u16 (u.a7 : Int), .int .i64 u.port, .bool u.opaq, .slice A n c, .bool u.hasQ, .string u.query, .bool u.hasF, .string u.frag] 29)) = W := ⟨_, rfl⟩
  have HW : Hid (Below w.heap.size w W) := by show Below w.heap.size w W; rw [← hW]; exact bel12 _ _
  have HCs : Hid (∀ wx, Below W.heap.size W wx → blk12 wx w.heap.size = some (.cells #[.string u.scheme, .string u.user, .string u.pass, .int .i64 u.kind, .string u.name, .int .u32 (u.v4 : Int), .int .u16 (u.a0 : Int), .int .u16 (u.a1 : Int), .int .u16 (u.a2 : Int), .int .u16 (u.a3 : Int), .int .u16 (u.a4 : Int), .int .u16 (u.a5 : Int), .int .u16 (u.a6 : Int), .int .u16 (u.a7 : Int), .int .i64 u.port, .bool u.opaq, .slice A n c, .bool u.hasQ, .string u.query, .bool u.hasF, .string u.frag] 29 (0, 0))) := by
    show ∀ wx, Below W.heap.size W wx → _
    subst hW
    exact fun wx hb => ((cells12 (.string u.scheme) (.string u.user) (.string u.pass) (.int .i64 u.kind) (.string u.name) (.int .u32 (u.v4 : Int)) (.int .u16 (u.a0 : Int)) (.int .u16 (u.a1 : Int)) (.int .u16 (u.a2 : Int)) (.int .u16 (u.a3 : Int)) (.int .u16 (u.a4 : Int)) (.int .u16 (u.a5 : Int)) (.int .u16 (u.a6 : Int)) (.int .u16 (u.a7 : Int)) (.int .i64 u.port) (.bool u.opaq) (.slice A n c) (.bool u.hasQ) (.string u.query) (.bool u.hasF) (.string u.frag)) wx hb).1.out
  have HA : Hid (Calls Tryd.prog 8 #[] W (Yes12 W)) := awake12 (HC.out.behind HW.out)
  have HF := Lib.hid (fun wx (hb : Below W.heap.size W wx) => rfew_is hfew A n c hn hl wx (hs.below (bn12 HW.out hb)) hf)
  obtain ⟨g, hg⟩ : ∃ g, w.heap.size = g := ⟨_, rfl⟩
  have hgW : g < W.heap.size := by rw [← hW, ← hg]; simp
  have hwee := few12_wee hu hfew
  have HWee := Lib.hid hwee
  have hwee2 := wee12_6 hwee hfew
  have HSg := Lib.hid (fun wx (hb : Below W.heap.size W wx) => hs.below (bn12 HW.out hb))
  have HN := Lib.hid (And.intro hn hc.2)
  have hn50 : n ≤ 50 := by have := hwee.len; omega
  have HAt : Hid (∀ wx, Below W.heap.size W wx → At12 wx u A n c) := fun wx hb => ⟨hs.below (bn12 HW.out hb), hn, hc.1, hc.2, hwee⟩
  obtain ⟨t, ht⟩ : ∃ t, txt10 (text12 u false) = t := ⟨_, rfl⟩
  have H1 := Lib.hid (fun wx hb A8 c8 (ha : At12 wx u A n c) (he : At12 wx u A8 n c8) => csame12 HC.out (same12_self u) wx hb ha he)
  have H2 := Lib.hid (fun wx hb (ha : At12 wx u A n c) => ctext12 HC.out ht wx hb ha)
  have H3 := Lib.hid (fun wx hb A8 c8 (ha : At12 wx u A8 n c8) => ctext12 HC.out ht wx hb ha)
  have H4 := Lib.hid (fun wx hb A8 m8 c8 (ha : At12 wx u A n c) (he : At12 wx ({ u with hasQ := !u.hasQ } : Url12) A8 m8 c8) => csame12 HC.out (one12_6 hu) wx hb ha he)
  rw [hg] at HCs
  have HgW := Lib.hid hgW
  have HW2 := Lib.hid hwee2
  have hk2 : k.tmod 8 = 6 := by rw [Int.tmod_eq_emod_of_nonneg k0]; exact hk
  have z1 := hwee.scheme; have z2 := hwee.user; have z3 := hwee.pass
  clear ht hfew hs hn hl hc hf hu hwee hgW hwee2
  go_enter Tryd.func5, Tryd.ntmps5
  go_wp2_with (first
    | (go_at_call 8; (try rw [hW]); refine HA.out.mono ?_; rintro e w1 ⟨rfl, hb⟩; have HBc := Lib.hid hb; (try rw [hg]); have s0 := HCs.out _ hb; clear hb)
    | (go_at_call 9; (with_reducible refine (HF.out _ HBc.out).mono ?_); rintro e w2 ⟨rfl, hb⟩; have HBc := Lib.hid (bn12 HBc.out hb); clear s0; have s0 := HCs.out _ HBc.out; have hlt := Nat.lt_of_lt_of_le HgW.out HBc.out.size; have q6 := (blk_cell12 s0 16 rfl).1; have hlW := Lib.hid HBc.out.size; clear hb)
    | (at_builtin
       refine append_segs rfl (.tmp 14) (.tmp 16) rfl (w2.heap.size + 1) _ [] A n c u.path rfl rfl (rowS_at (by simp only [World.size_alloc])) (HSg.out _ (bn12 HBc.out (bn12 (bel12 _ _) (bel12 _ _)))) HN.out.1.symm HN.out.2 (by have := HN.out.1; simp; omega) (by simp only [World.size_alloc]; omega) ?_
       intro v3 w3 hr3 hb3
       have hr4 := rowS_set hr3 (p := ⟨w2.heap.size, 16, none⟩) (Nat.lt_succ_self _) v3
       obtain ⟨A8, c8, hv8, hcc8, hs8⟩ := hr4.segs
       rw [List.nil_append] at hr4
       rw [List.nil_append, HN.out.1] at hv8 hcc8
       rw [List.nil_append] at hs8
       subst hv8
       have hB3 : Below (w2.heap.size + 1) ((w2.alloc (.cells #[.string u.scheme, .string u.user, .string u.pass, .int .i64 u.kind, .string u.name, .int .u32 (u.v4 : Int), .int .u16 (u.a0 : Int), .int .u16 (u.a1 : Int), .int .u16 (u.a2 : Int), .int .u16 (u.a3 : Int), .int .u16 (u.a4 : Int), .int .u16 (u.a5 : Int), .int .u16 (u.a6 : Int), .int .u16 (u.a7 : Int), .int .i64 u.port, .bool u.opaq, .slice A n c, .bool u.hasQ, .string u.query, .bool u.hasF, .string u.frag] 29)).alloc (.cells #[] 9)) w3 := hb3
       have hX : Below w2.heap.size w2 w3 := (bn12 (bel12 w2 (.cells #[.string u.scheme, .string u.user, .string u.pass, .int .i64 u.kind, .string u.name, .int .u32 (u.v4 : Int), .int .u16 (u.a0 : Int), .int .u16 (u.a1 : Int), .int .u16 (u.a2 : Int), .int .u16 (u.a3 : Int), .int .u16 (u.a4 : Int), .int .u16 (u.a5 : Int), .int .u16 (u.a6 : Int), .int .u16 (u.a7 : Int), .int .i64 u.port, .bool u.opaq, .slice A n c, .bool u.hasQ, .string u.query, .bool u.hasF, .string u.frag] 29)) (bel12 _ (.cells #[] 9))).trans (hB3.mono (by omega))
       have hg1 : blk12 w3 w2.heap.size = some (.cells #[.string u.scheme, .string u.user, .string u.pass, .int .i64 u.kind, .string u.name, .int .u32 (u.v4 : Int), .int .u16 (u.a0 : Int), .int .u16 (u.a1 : Int), .int .u16 (u.a2 : Int), .int .u16 (u.a3 : Int), .int .u16 (u.a4 : Int), .int .u16 (u.a5 : Int), .int .u16 (u.a6 : Int), .int .u16 (u.a7 : Int), .int .i64 u.port, .bool u.opaq, .slice A n c, .bool u.hasQ, .string u.query, .bool u.hasF, .string u.frag] 29 (0, 0)) := (hB3.block w2.heap.size (by omega)).trans ((heap_old12 _ _ _ (by simp)).trans (heap_here12 _ _ _ rfl))
       have hY : Hid (Below W.heap.size W (w3.setCell ⟨w2.heap.size, 16, none⟩ (.slice A8 n c8))) := (bn12 HBc.out hX).setCell (by simpa using HBc.out.size) _
       have hU : blk12 (w3.setCell ⟨w2.heap.size, 16, none⟩ (.slice A8 n c8)) g = some (.cells #[.string u.scheme, .string u.user, .string u.pass, .int .i64 u.kind, .string u.name, .int .u32 (u.v4 : Int), .int .u16 (u.a0 : Int), .int .u16 (u.a1 : Int), .int .u16 (u.a2 : Int), .int .u16 (u.a3 : Int), .int .u16 (u.a4 : Int), .int .u16 (u.a5 : Int), .int .u16 (u.a6 : Int), .int .u16 (u.a7 : Int), .int .i64 u.port, .bool u.opaq, .slice A n c, .bool u.hasQ, .string u.query, .bool u.hasF, .string u.frag] 29 (0, 0)) := (heap_other12 _ _ _ _ _ (Nat.ne_of_gt hlt)).trans (HCs.out _ (bn12 HBc.out hX))
       have hV : blk12 (w3.setCell ⟨w2.heap.size, 16, none⟩ (.slice A8 n c8)) w2.heap.size = some (.cells #[.string u.scheme, .string u.user, .string u.pass, .int .i64 u.kind, .string u.name, .int .u32 (u.v4 : Int), .int .u16 (u.a0 : Int), .int .u16 (u.a1 : Int), .int .u16 (u.a2 : Int), .int .u16 (u.a3 : Int), .int .u16 (u.a4 : Int), .int .u16 (u.a5 : Int), .int .u16 (u.a6 : Int), .int .u16 (u.a7 : Int), .int .i64 u.port, .bool u.opaq, .slice A8 n c8, .bool u.hasQ, .string u.query, .bool u.hasF, .string u.frag] 29 (0, 0)) := (heap_put12 _ _ _ _).trans (by rw [hg1]; rfl)
       have HC2 : Hid (∀ wx, Below ((w3.setCell ⟨w2.heap.size, 16, none⟩ (.slice A8 n c8))).heap.size (w3.setCell ⟨w2.heap.size, 16, none⟩ (.slice A8 n c8)) wx → blk12 wx g = some (.cells #[.string u.scheme, .string u.user, .string u.pass, .int .i64 u.kind, .string u.name, .int .u32 (u.v4 : Int), .int .u16 (u.a0 : Int), .int .u16 (u.a1 : Int), .int .u16 (u.a2 : Int), .int .u16 (u.a3 : Int), .int .u16 (u.a4 : Int), .int .u16 (u.a5 : Int), .int .u16 (u.a6 : Int), .int .u16 (u.a7 : Int), .int .i64 u.port, .bool u.opaq, .slice A n c, .bool u.hasQ, .string u.query, .bool u.hasF, .string u.frag] 29 (0, 0)) ∧ blk12 wx w2.heap.size = some (.cells #[.string u.scheme, .string u.user, .string u.pass, .int .i64 u.kind, .string u.name, .int .u32 (u.v4 : Int), .int .u16 (u.a0 : Int), .int .u16 (u.a1 : Int), .int .u16 (u.a2 : Int), .int .u16 (u.a3 : Int), .int .u16 (u.a4 : Int), .int .u16 (u.a5 : Int), .int .u16 (u.a6 : Int), .int .u16 (u.a7 : Int), .int .i64 u.port, .bool u.opaq, .slice A8 n c8, .bool u.hasQ, .string u.query, .bool u.hasF, .string u.frag] 29 (0, 0))) := Lib.hid fun wx hb => ⟨blk_below12 hU hb, blk_below12 hV hb⟩
       have HV8 : Hid (∀ wx, Below ((w3.setCell ⟨w2.heap.size, 16, none⟩ (.slice A8 n c8))).heap.size (w3.setCell ⟨w2.heap.size, 16, none⟩ (.slice A8 n c8)) wx → At12 wx u A8 n c8) := Lib.hid fun wx hb => ⟨hs8.below hb, HN.out.1, hcc8.1, hcc8.2, HWee.out⟩
       have HBy := Lib.hid (Below.refl ((w3.setCell ⟨w2.heap.size, 16, none⟩ (.slice A8 n c8))).heap.size (w3.setCell ⟨w2.heap.size, 16, none⟩ (.slice A8 n c8)))
       have hB16 : Hid (w2.heap.size + 1 ≤ ((w3.setCell ⟨w2.heap.size, 16, none⟩ (.slice A8 n c8))).heap.size) := by
         show _ ≤ _
         have := hb3.size
         simp only [World.size_alloc, World.size_setCell] at this ⊢
         omega
       have HR8 : Hid (RowS (w2.heap.size + 1) (w3.setCell ⟨w2.heap.size, 16, none⟩ (.slice A8 n c8)) (.slice A8 n c8) u.path) := hr4
       have HCc := Lib.hid hcc8
       have s1 := And.intro hU hV
       have hne : w2.heap.size ≠ g := Nat.ne_of_gt hlt
       have q8 := (blk_cell12 hg1 16 rfl)
       obtain ⟨q8, q9⟩ := q8
       clear hr3 hr4 hb3 hs8 hcc8 hB3 hX hg1 hU hV s0))
  clear hW hg
  go_region_held3 (fun wx => blk12 wx g = some (.cells #[.string u.scheme, .string u.user, .string u.pass, .int .i64 u.kind, .string u.name, .int .u32 (u.v4 : Int), .int .u16 (u.a0 : Int), .int .u16 (u.a1 : Int), .int .u16 (u.a2 : Int), .int .u16 (u.a3 : Int), .int .u16 (u.a4 : Int), .int .u16 (u.a5 : Int), .int .u16 (u.a6 : Int), .int .u16 (u.a7 : Int), .int .i64 u.port, .bool u.opaq, .slice A n c, .bool u.hasQ, .string u.query, .bool u.hasF, .string u.frag] 29 (0, 0)) ∧ blk12 wx w2.heap.size = some (.cells #[.string u.scheme, .string u.user, .string u.pass, .int .i64 u.kind, .string u.name, .int .u32 (u.v4 : Int), .int .u16 (u.a0 : Int), .int .u16 (u.a1 : Int), .int .u16 (u.a2 : Int), .int .u16 (u.a3 : Int), .int .u16 (u.a4 : Int), .int .u16 (u.a5 : Int), .int .u16 (u.a6 : Int), .int .u16 (u.a7 : Int), .int .i64 u.port, .bool u.opaq, .slice A8 n c8, .bool u.hasQ, .string u.query, .bool u.hasF, .string u.frag] 29 (0, 0))) (first | exact s1 | exact hS4 | exact hS5 | exact hS6 | go_keep) (first
    | (go_at_call 14; (with_reducible refine (H1.out _ (bn12 HW.out (bn12 hY.out (by first | exact HBy.out | exact HBy.out.drew))) _ _ (HAt.out _ (bn12 hY.out (by first | exact HBy.out | exact HBy.out.drew))) (HV8.out _ (by first | exact HBy.out | exact HBy.out.drew))).mono ?_); rintro e w4 ⟨rfl, hb1⟩; (first | have HBy := Lib.hid (bn12 HBy.out hb1) | have HBy := Lib.hid (bnd12 HBy.out hb1)); have hS4 := (HC2.out _ HBy.out); clear hb1)
    | (go_at_call 10; (with_reducible refine (H2.out _ (bn12 HW.out (bn12 hY.out (by first | exact HBy.out | exact HBy.out.drew))) (HAt.out _ (bn12 hY.out (by first | exact HBy.out | exact HBy.out.drew)))).mono ?_); rintro e w5 ⟨rfl, hb1⟩; (first | have HBy := Lib.hid (bn12 HBy.out hb1) | have HBy := Lib.hid (bnd12 HBy.out hb1)); have hS5 := (HC2.out _ HBy.out); clear hb1)
    | (go_at_call 10; (with_reducible refine (H3.out _ (bn12 HW.out (bn12 hY.out (by first | exact HBy.out | exact HBy.out.drew))) _ _ (HV8.out _ (by first | exact HBy.out | exact HBy.out.drew))).mono ?_); rintro e w6 ⟨rfl, hb1⟩; (first | have HBy := Lib.hid (bn12 HBy.out hb1) | have HBy := Lib.hid (bnd12 HBy.out hb1)); have hS6 := (HC2.out _ HBy.out); clear hb1))
  all_goals
    have hS := HC2.out _ HBy.out
    obtain ⟨hS7, hS8⟩ := hS
    obtain ⟨c1, c2⟩ := blk_cell12 hS8 17 rfl
    have HV9 : Hid (∀ x, At12 (World.setCell _ ⟨w2.heap.size, 17, none⟩ x) ({ u with hasQ := !u.hasQ } : Url12) A8 n c8) := Lib.hid fun x => ⟨rowS_segs (rowS_set (HR8.out.below HBy.out) (p := ⟨w2.heap.size, 17, none⟩) (Nat.lt_succ_self _) x), HN.out.1, HCc.out.1, HCc.out.2, HW2.out⟩
    go_wp2_with (go_at_call 14; (refine (H4.out _ (bn12 HW.out ((bn12 hY.out HBy.out).setCell (by simpa using hlW.out) _)) _ _ _ (HAt.out _ ((bn12 hY.out HBy.out).setCell (by simpa using hlW.out) _)) (HV9.out _)).mono ?_); rintro e w9 ⟨rfl, hb⟩; have HB9 := Lib.hid (bn12 ((bn12 hY.out HBy.out).setCell (by simpa using hlW.out) _) hb); clear hb)
    go_ret
    exact ⟨by simp, bn12 HW.out HB9.out⟩
end Go.Proofs.YtliklhldlofnjaaDoor

/-
  The law RecordOne of layer 12, over the program's contracts (written by mkrec.py).
-/
namespace Go.Proofs.YtliklhldlofnjaaDoor
open Go.RowKit
attribute [local go_sem ↓] foldL12 foldS12
attribute [local go_sem] loadU_run viaRow_cells storeU_run viaStore_cells setRow_here12 heap_here12 heap_old12 heap_put12 put12_cells heap_other12 blk_drew12


theorem one12_7 {u : Url12} (hu : Nums12 u) : same12 u ({ u with opaq := !u.opaq } : Url12) = false := decide_eq_false fun h => (fun h => by have h2 : u.opaq = !u.opaq := h; revert h2; cases u.opaq <;> decide) (h.2.2.2.2.2.1)
theorem wee12_7 {u : Url12} (h : Wee12 u) (hf : few12 u = true) : Wee12 ({ u with opaq := !u.opaq } : Url12) := by
  have hF := of_decide_eq_true hf
  obtain ⟨f1, f2, f3, f4, f5, f6, f7, f8⟩ := hF
  exact ⟨⟨h.nums.k0, h.nums.k1, h.nums.p0, h.nums.p1, h.nums.v4, h.nums.v6⟩, (h.len), (h.segs), (h.scheme), (h.user), (h.pass), (h.name), (h.query), (h.frag)⟩
set_option maxHeartbeats 8000000 in
set_option maxRecDepth 100000 in
theorem law_one12_7 (u : Url12) (A : Option Addr) (n c : Nat) (k : Int) (w : World) (hs : Segs w A u.path) (hn : u.path.length = n) (hl : n ≤ maxLen) (hc : n ≤ c ∧ (A = none → c = 0)) (hf : Fits12 u) (hu : Nums12 u) (k0 : 0 ≤ k) (k1 : k ≤ 255) (C : RecC w) (hfew : few12 u = true) (hk : k % 8 = 7) :
    Calls Tryd.prog 5 #[.agg #[.string u.scheme, .string u.user, .string u.pass, .int .i64 u.kind, .string u.name, .int .u32 (u.v4 : Int), .int .u16 (u.a0 : Int), .int .u16 (u.a1 : Int), .int .u16 (u.a2 : Int), .int .u16 (u.a3 : Int), .int .u16 (u.a4 : Int), .int .u16 (u.a5 : Int), .int .u16 (u.a6 : Int), .int .u16 (u.a7 : Int), .int .i64 u.port, .bool u.opaq, .slice A n c, .bool u.hasQ, .string u.query, .bool u.hasF, .string u.frag], .int .u8 k] w (Yes12 w) := by
  have HC := Lib.hid C
  clear C
  obtain ⟨W, hW⟩ : ∃ W, (w.alloc (.cells #[.string u.scheme, .string u.user, .string u.pass, .int .i64 u.kind, .string u.name, .int .u32 (u.v4 : Int), .int .u16 (u.a0 : Int), .int .u16 (u.a1 : Int), .int .u16 (u.a2 : Int), .int .u16 (u.a3 : Int), .int .u16 (u.a4 : Int), .int .u16 (u.a5 : Int), .int .u16 (u.a6 : Int), .int .u16 (u.a7 : Int), .int .i64 u.port, .bool u.opaq, .slice A n c, .bool u.hasQ, .string u.query, .bool u.hasF, .string u.frag] 29)) = W := ⟨_, rfl⟩
  have HW : Hid (Below w.heap.size w W) := by show Below w.heap.size w W; rw [← hW]; exact bel12 _ _
  have HCs : Hid (∀ wx, Below W.heap.size W wx → blk12 wx w.heap.size = some (.cells #[.string u.scheme, .string u.user, .string u.pass, .int .i64 u.kind, .string u.name, .int .u32 (u.v4 : Int), .int .u16 (u.a0 : Int), .int .u16 (u.a1 : Int), .int .u16 (u.a2 : Int), .int .u16 (u.a3 : Int), .int .u16 (u.a4 : Int), .int .u16 (u.a5 : Int), .int .u16 (u.a6 : Int), .int .u16 (u.a7 : Int), .int .i64 u.port, .bool u.opaq, .slice A n c, .bool u.hasQ, .string u.query, .bool u.hasF, .string u.frag] 29 (0, 0))) := by
    show ∀ wx, Below W.heap.size W wx → _
    subst hW
    exact fun wx hb => ((cells12 (.string u.scheme) (.string u.user) (.string u.pass) (.int .i64 u.kind) (.string u.name) (.int .u32 (u.v4 : Int)) (.int .u16 (u.a0 : Int)) (.int .u16 (u.a1 : Int)) (.int .u16 (u.a2 : Int)) (.int .u16 (u.a3 : Int)) (.int .u16 (u.a4 : Int)) (.int .u16 (u.a5 : Int)) (.int .u16 (u.a6 : Int)) (.int .u16 (u.a7 : Int)) (.int .i64 u.port) (.bool u.opaq) (.slice A n c) (.bool u.hasQ) (.string u.query) (.bool u.hasF) (.string u.frag)) wx hb).1.out
  have HA : Hid (Calls Tryd.prog 8 #[] W (Yes12 W)) := awake12 (HC.out.behind HW.out)
  have HF := Lib.hid (fun wx (hb : Below W.heap.size W wx) => rfew_is hfew A n c hn hl wx (hs.below (bn12 HW.out hb)) hf)
  obtain ⟨g, hg⟩ : ∃ g, w.heap.size = g := ⟨_, rfl⟩
  have hgW : g < W.heap.size := by rw [← hW, ← hg]; simp
  have hwee := few12_wee hu hfew
  have HWee := Lib.hid hwee
  have hwee2 := wee12_7 hwee hfew
  have HSg := Lib.hid (fun wx (hb : Below W.heap.size W wx) => hs.below (bn12 HW.out hb))
  have HN := Lib.hid (And.intro hn hc.2)
  have hn50 : n ≤ 50 := by have := hwee.len; omega
  have HAt : Hid (∀ wx, Below W.heap.size W wx → At12 wx u A n c) := fun wx hb => ⟨hs.below (bn12 HW.out hb), hn, hc.1, hc.2, hwee⟩
  obtain ⟨t, ht⟩ : ∃ t, txt10 (text12 u false) = t := ⟨_, rfl⟩
  have H1 := Lib.hid (fun wx hb A8 c8 (ha : At12 wx u A n c) (he : At12 wx u A8 n c8) => csame12 HC.out (same12_self u) wx hb ha he)
  have H2 := Lib.hid (fun wx hb (ha : At12 wx u A n c) => ctext12 HC.out ht wx hb ha)
  have H3 := Lib.hid (fun wx hb A8 c8 (ha : At12 wx u A8 n c8) => ctext12 HC.out ht wx hb ha)
  have H4 := Lib.hid (fun wx hb A8 m8 c8 (ha : At12 wx u A n c) (he : At12 wx ({ u with opaq := !u.opaq } : Url12) A8 m8 c8) => csame12 HC.out (one12_7 hu) wx hb ha he)
  rw [hg] at HCs
  have HgW := Lib.hid hgW
  have HW2 := Lib.hid hwee2
  have hk2 : k.tmod 8 = 7 := by rw [Int.tmod_eq_emod_of_nonneg k0]; exact hk
  have z1 := hwee.scheme; have z2 := hwee.user; have z3 := hwee.pass
  clear ht hfew hs hn hl hc hf hu hwee hgW hwee2
  go_enter Tryd.func5, Tryd.ntmps5
  go_wp2_with (first
    | (go_at_call 8; (try rw [hW]); refine HA.out.mono ?_; rintro e w1 ⟨rfl, hb⟩; have HBc := Lib.hid hb; (try rw [hg]); have s0 := HCs.out _ hb; clear hb)
    | (go_at_call 9; (with_reducible refine (HF.out _ HBc.out).mono ?_); rintro e w2 ⟨rfl, hb⟩; have HBc := Lib.hid (bn12 HBc.out hb); clear s0; have s0 := HCs.out _ HBc.out; have hlt := Nat.lt_of_lt_of_le HgW.out HBc.out.size; have q6 := (blk_cell12 s0 16 rfl).1; have hlW := Lib.hid HBc.out.size; clear hb)
    | (at_builtin
       refine append_segs rfl (.tmp 14) (.tmp 16) rfl (w2.heap.size + 1) _ [] A n c u.path rfl rfl (rowS_at (by simp only [World.size_alloc])) (HSg.out _ (bn12 HBc.out (bn12 (bel12 _ _) (bel12 _ _)))) HN.out.1.symm HN.out.2 (by have := HN.out.1; simp; omega) (by simp only [World.size_alloc]; omega) ?_
       intro v3 w3 hr3 hb3
       have hr4 := rowS_set hr3 (p := ⟨w2.heap.size, 16, none⟩) (Nat.lt_succ_self _) v3
       obtain ⟨A8, c8, hv8, hcc8, hs8⟩ := hr4.segs
       rw [List.nil_append] at hr4
       rw [List.nil_append, HN.out.1] at hv8 hcc8
       rw [List.nil_append] at hs8
       subst hv8
       have hB3 : Below (w2.heap.size + 1) ((w2.alloc (.cells #[.string u.scheme, .string u.user, .string u.pass, .int .i64 u.kind, .string u.name, .int .u32 (u.v4 : Int), .int .u16 (u.a0 : Int), .int .u16 (u.a1 : Int), .int .u16 (u.a2 : Int), .int .u16 (u.a3 : Int), .int .u16 (u.a4 : Int), .int .u16 (u.a5 : Int), .int .u16 (u.a6 : Int), .int .u16 (u.a7 : Int), .int .i64 u.port, .bool u.opaq, .slice A n c, .bool u.hasQ, .string u.query, .bool u.hasF, .string u.frag] 29)).alloc (.cells #[] 9)) w3 := hb3
       have hX : Below w2.heap.size w2 w3 := (bn12 (bel12 w2 (.cells #[.string u.scheme, .string u.user, .string u.pass, .int .i64 u.kind, .string u.name, .int .u32 (u.v4 : Int), .int .u16 (u.a0 : Int), .int .u16 (u.a1 : Int), .int .u16 (u.a2 : Int), .int .u16 (u.a3 : Int), .int .u16 (u.a4 : Int), .int .u16 (u.a5 : Int), .int .u16 (u.a6 : Int), .int .u16 (u.a7 : Int), .int .i64 u.port, .bool u.opaq, .slice A n c, .bool u.hasQ, .string u.query, .bool u.hasF, .string u.frag] 29)) (bel12 _ (.cells #[] 9))).trans (hB3.mono (by omega))
       have hg1 : blk12 w3 w2.heap.size = some (.cells #[.string u.scheme, .string u.user, .string u.pass, .int .i64 u.kind, .string u.name, .int .u32 (u.v4 : Int), .int .u16 (u.a0 : Int), .int .u16 (u.a1 : Int), .int .u16 (u.a2 : Int), .int .u16 (u.a3 : Int), .int .u16 (u.a4 : Int), .int .u16 (u.a5 : Int), .int .u16 (u.a6 : Int), .int .u16 (u.a7 : Int), .int .i64 u.port, .bool u.opaq, .slice A n c, .bool u.hasQ, .string u.query, .bool u.hasF, .string u.frag] 29 (0, 0)) := (hB3.block w2.heap.size (by omega)).trans ((heap_old12 _ _ _ (by simp)).trans (heap_here12 _ _ _ rfl))
       have hY : Hid (Below W.heap.size W (w3.setCell ⟨w2.heap.size, 16, none⟩ (.slice A8 n c8))) := (bn12 HBc.out hX).setCell (by simpa using HBc.out.size) _
       have hU : blk12 (w3.setCell ⟨w2.heap.size, 16, none⟩ (.slice A8 n c8)) g = some (.cells #[.string u.scheme, .string u.user, .string u.pass, .int .i64 u.kind, .string u.name, .int .u32 (u.v4 : Int), .int .u16 (u.a0 : Int), .int .u16 (u.a1 : Int), .int .u16 (u.a2 : Int), .int .u16 (u.a3 : Int), .int .u16 (u.a4 : Int), .int .u16 (u.a5 : Int), .int .u16 (u.a6 : Int), .int .u16 (u.a7 : Int), .int .i64 u.port, .bool u.opaq, .slice A n c, .bool u.hasQ, .string u.query, .bool u.hasF, .string u.frag] 29 (0, 0)) := (heap_other12 _ _ _ _ _ (Nat.ne_of_gt hlt)).trans (HCs.out _ (bn12 HBc.out hX))
       have hV : blk12 (w3.setCell ⟨w2.heap.size, 16, none⟩ (.slice A8 n c8)) w2.heap.size = some (.cells #[.string u.scheme, .string u.user, .string u.pass, .int .i64 u.kind, .string u.name, .int .u32 (u.v4 : Int), .int .u16 (u.a0 : Int), .int .u16 (u.a1 : Int), .int .u16 (u.a2 : Int), .int .u16 (u.a3 : Int), .int .u16 (u.a4 : Int), .int .u16 (u.a5 : Int), .int .u16 (u.a6 : Int), .int .u16 (u.a7 : Int), .int .i64 u.port, .bool u.opaq, .slice A8 n c8, .bool u.hasQ, .string u.query, .bool u.hasF, .string u.frag] 29 (0, 0)) := (heap_put12 _ _ _ _).trans (by rw [hg1]; rfl)
       have HC2 : Hid (∀ wx, Below ((w3.setCell ⟨w2.heap.size, 16, none⟩ (.slice A8 n c8))).heap.size (w3.setCell ⟨w2.heap.size, 16, none⟩ (.slice A8 n c8)) wx → blk12 wx g = some (.cells #[.string u.scheme, .string u.user, .string u.pass, .int .i64 u.kind, .string u.name, .int .u32 (u.v4 : Int), .int .u16 (u.a0 : Int), .int .u16 (u.a1 : Int), .int .u16 (u.a2 : Int), .int .u16 (u.a3 : Int), .int .u16 (u.a4 : Int), .int .u16 (u.a5 : Int), .int .u16 (u.a6 : Int), .int .u16 (u.a7 : Int), .int .i64 u.port, .bool u.opaq, .slice A n c, .bool u.hasQ, .string u.query, .bool u.hasF, .string u.frag] 29 (0, 0)) ∧ blk12 wx w2.heap.size = some (.cells #[.string u.scheme, .string u.user, .string u.pass, .int .i64 u.kind, .string u.name, .int .u32 (u.v4 : Int), .int .u16 (u.a0 : Int), .int .u16 (u.a1 : Int), .int .u16 (u.a2 : Int), .int .u16 (u.a3 : Int), .int .u16 (u.a4 : Int), .int .u16 (u.a5 : Int), .int .u16 (u.a6 : Int), .int .u16 (u.a7 : Int), .int .i64 u.port, .bool u.opaq, .slice A8 n c8, .bool u.hasQ, .string u.query, .bool u.hasF, .string u.frag] 29 (0, 0))) := Lib.hid fun wx hb => ⟨blk_below12 hU hb, blk_below12 hV hb⟩
       have HV8 : Hid (∀ wx, Below ((w3.setCell ⟨w2.heap.size, 16, none⟩ (.slice A8 n c8))).heap.size (w3.setCell ⟨w2.heap.size, 16, none⟩ (.slice A8 n c8)) wx → At12 wx u A8 n c8) := Lib.hid fun wx hb => ⟨hs8.below hb, HN.out.1, hcc8.1, hcc8.2, HWee.out⟩
       have HBy := Lib.hid (Below.refl ((w3.setCell ⟨w2.heap.size, 16, none⟩ (.slice A8 n c8))).heap.size (w3.setCell ⟨w2.heap.size, 16, none⟩ (.slice A8 n c8)))
       have hB16 : Hid (w2.heap.size + 1 ≤ ((w3.setCell ⟨w2.heap.size, 16, none⟩ (.slice A8 n c8))).heap.size) := by
         show _ ≤ _
         have := hb3.size
         simp only [World.size_alloc, World.size_setCell] at this ⊢
         omega
       have HR8 : Hid (RowS (w2.heap.size + 1) (w3.setCell ⟨w2.heap.size, 16, none⟩ (.slice A8 n c8)) (.slice A8 n c8) u.path) := hr4
       have HCc := Lib.hid hcc8
       have s1 := And.intro hU hV
       have hne : w2.heap.size ≠ g := Nat.ne_of_gt hlt
       have q8 := (blk_cell12 hg1 16 rfl)
       obtain ⟨q8, q9⟩ := q8
       clear hr3 hr4 hb3 hs8 hcc8 hB3 hX hg1 hU hV s0))
  clear hW hg
  go_region_held3 (fun wx => blk12 wx g = some (.cells #[.string u.scheme, .string u.user, .string u.pass, .int .i64 u.kind, .string u.name, .int .u32 (u.v4 : Int), .int .u16 (u.a0 : Int), .int .u16 (u.a1 : Int), .int .u16 (u.a2 : Int), .int .u16 (u.a3 : Int), .int .u16 (u.a4 : Int), .int .u16 (u.a5 : Int), .int .u16 (u.a6 : Int), .int .u16 (u.a7 : Int), .int .i64 u.port, .bool u.opaq, .slice A n c, .bool u.hasQ, .string u.query, .bool u.hasF, .string u.frag] 29 (0, 0)) ∧ blk12 wx w2.heap.size = some (.cells #[.string u.scheme, .string u.user, .string u.pass, .int .i64 u.kind, .string u.name, .int .u32 (u.v4 : Int), .int .u16 (u.a0 : Int), .int .u16 (u.a1 : Int), .int .u16 (u.a2 : Int), .int .u16 (u.a3 : Int), .int .u16 (u.a4 : Int), .int .u16 (u.a5 : Int), .int .u16 (u.a6 : Int), .int .u16 (u.a7 : Int), .int .i64 u.port, .bool u.opaq, .slice A8 n c8, .bool u.hasQ, .string u.query, .bool u.hasF, .string u.frag] 29 (0, 0))) (first | exact s1 | exact hS4 | exact hS5 | exact hS6 | go_keep) (first
    | (go_at_call 14; (with_reducible refine (H1.out _ (bn12 HW.out (bn12 hY.out (by first | exact HBy.out | exact HBy.out.drew))) _ _ (HAt.out _ (bn12 hY.out (by first | exact HBy.out | exact HBy.out.drew))) (HV8.out _ (by first | exact HBy.out | exact HBy.out.drew))).mono ?_); rintro e w4 ⟨rfl, hb1⟩; (first | have HBy := Lib.hid (bn12 HBy.out hb1) | have HBy := Lib.hid (bnd12 HBy.out hb1)); have hS4 := (HC2.out _ HBy.out); clear hb1)
    | (go_at_call 10; (with_reducible refine (H2.out _ (bn12 HW.out (bn12 hY.out (by first | exact HBy.out | exact HBy.out.drew))) (HAt.out _ (bn12 hY.out (by first | exact HBy.out | exact HBy.out.drew)))).mono ?_); rintro e w5 ⟨rfl, hb1⟩; (first | have HBy := Lib.hid (bn12 HBy.out hb1) | have HBy := Lib.hid (bnd12 HBy.out hb1)); have hS5 := (HC2.out _ HBy.out); clear hb1)
    | (go_at_call 10; (with_reducible refine (H3.out _ (bn12 HW.out (bn12 hY.out (by first | exact HBy.out | exact HBy.out.drew))) _ _ (HV8.out _ (by first | exact HBy.out | exact HBy.out.drew))).mono ?_); rintro e w6 ⟨rfl, hb1⟩; (first | have HBy := Lib.hid (bn12 HBy.out hb1) | have HBy := Lib.hid (bnd12 HBy.out hb1)); have hS6 := (HC2.out _ HBy.out); clear hb1))
  all_goals
    have hS := HC2.out _ HBy.out
    obtain ⟨hS7, hS8⟩ := hS
    obtain ⟨c1, c2⟩ := blk_cell12 hS8 15 rfl
    have HV9 : Hid (∀ x, At12 (World.setCell _ ⟨w2.heap.size, 15, none⟩ x) ({ u with opaq := !u.opaq } : Url12) A8 n c8) := Lib.hid fun x => ⟨rowS_segs (rowS_set (HR8.out.below HBy.out) (p := ⟨w2.heap.size, 15, none⟩) (Nat.lt_succ_self _) x), HN.out.1, HCc.out.1, HCc.out.2, HW2.out⟩
    go_wp2_with (go_at_call 14; (refine (H4.out _ (bn12 HW.out ((bn12 hY.out HBy.out).setCell (by simpa using hlW.out) _)) _ _ _ (HAt.out _ ((bn12 hY.out HBy.out).setCell (by simpa using hlW.out) _)) (HV9.out _)).mono ?_); rintro e w9 ⟨rfl, hb⟩; have HB9 := Lib.hid (bn12 ((bn12 hY.out HBy.out).setCell (by simpa using hlW.out) _) hb); clear hb)
    go_ret
    exact ⟨by simp, bn12 HW.out HB9.out⟩
end Go.Proofs.YtliklhldlofnjaaDoor

/-
  The law RecordOne of layer 12, over the program's contracts (written by mkrec.py).
-/
namespace Go.Proofs.YtliklhldlofnjaaDoor
open Go.RowKit
attribute [local go_sem ↓] foldL12 foldS12
attribute [local go_sem] loadU_run viaRow_cells storeU_run viaStore_cells setRow_here12 heap_here12 heap_old12 heap_put12 put12_cells heap_other12 blk_drew12


theorem one12_5 {u : Url12} (hu : Nums12 u) : same12 u ({ u with path := u.path ++ [[]] } : Url12) = false := decide_eq_false fun h => (fun h => path_ne12 h) (h.2.2.2.2.2.2.1)
theorem wee12_5 {u : Url12} (h : Wee12 u) (hf : few12 u = true) : Wee12 ({ u with path := u.path ++ [[]] } : Url12) := by
  have hF := of_decide_eq_true hf
  obtain ⟨f1, f2, f3, f4, f5, f6, f7, f8⟩ := hF
  exact ⟨⟨h.nums.k0, h.nums.k1, h.nums.p0, h.nums.p1, h.nums.v4, h.nums.v6⟩, (by show (_ ++ _ : List Seg).length ≤ 50; rw [List.length_append]; show _ + 1 ≤ 50; omega), (fun p hp => by rcases List.mem_append.1 hp with hp | hp; exact h.segs p hp; rw [List.mem_singleton.1 hp]; simp), (h.scheme), (h.user), (h.pass), (h.name), (h.query), (h.frag)⟩
set_option maxHeartbeats 8000000 in
set_option maxRecDepth 100000 in
theorem law_one12_5 (u : Url12) (A : Option Addr) (n c : Nat) (k : Int) (w : World) (hs : Segs w A u.path) (hn : u.path.length = n) (hl : n ≤ maxLen) (hc : n ≤ c ∧ (A = none → c = 0)) (hf : Fits12 u) (hu : Nums12 u) (k0 : 0 ≤ k) (k1 : k ≤ 255) (C : RecC w) (hfew : few12 u = true) (hk : k % 8 = 5) :
    Calls Tryd.prog 5 #[.agg #[.string u.scheme, .string u.user, .string u.pass, .int .i64 u.kind, .string u.name, .int .u32 (u.v4 : Int), .int .u16 (u.a0 : Int), .int .u16 (u.a1 : Int), .int .u16 (u.a2 : Int), .int .u16 (u.a3 : Int), .int .u16 (u.a4 : Int), .int .u16 (u.a5 : Int), .int .u16 (u.a6 : Int), .int .u16 (u.a7 : Int), .int .i64 u.port, .bool u.opaq, .slice A n c, .bool u.hasQ, .string u.query, .bool u.hasF, .string u.frag], .int .u8 k] w (Yes12 w) := by
  have HC := Lib.hid C
  clear C
  obtain ⟨W, hW⟩ : ∃ W, (w.alloc (.cells #[.string u.scheme, .string u.user, .string u.pass, .int .i64 u.kind, .string u.name, .int .u32 (u.v4 : Int), .int .u16 (u.a0 : Int), .int .u16 (u.a1 : Int), .int .u16 (u.a2 : Int), .int .u16 (u.a3 : Int), .int .u16 (u.a4 : Int), .int .u16 (u.a5 : Int), .int .u16 (u.a6 : Int), .int .u16 (u.a7 : Int), .int .i64 u.port, .bool u.opaq, .slice A n c, .bool u.hasQ, .string u.query, .bool u.hasF, .string u.frag] 29)) = W := ⟨_, rfl⟩
  have HW : Hid (Below w.heap.size w W) := by show Below w.heap.size w W; rw [← hW]; exact bel12 _ _
  have HCs : Hid (∀ wx, Below W.heap.size W wx → blk12 wx w.heap.size = some (.cells #[.string u.scheme, .string u.user, .string u.pass, .int .i64 u.kind, .string u.name, .int .u32 (u.v4 : Int), .int .u16 (u.a0 : Int), .int .u16 (u.a1 : Int), .int .u16 (u.a2 : Int), .int .u16 (u.a3 : Int), .int .u16 (u.a4 : Int), .int .u16 (u.a5 : Int), .int .u16 (u.a6 : Int), .int .u16 (u.a7 : Int), .int .i64 u.port, .bool u.opaq, .slice A n c, .bool u.hasQ, .string u.query, .bool u.hasF, .string u.frag] 29 (0, 0))) := by
    show ∀ wx, Below W.heap.size W wx → _
    subst hW
    exact fun wx hb => ((cells12 (.string u.scheme) (.string u.user) (.string u.pass) (.int .i64 u.kind) (.string u.name) (.int .u32 (u.v4 : Int)) (.int .u16 (u.a0 : Int)) (.int .u16 (u.a1 : Int)) (.int .u16 (u.a2 : Int)) (.int .u16 (u.a3 : Int)) (.int .u16 (u.a4 : Int)) (.int .u16 (u.a5 : Int)) (.int .u16 (u.a6 : Int)) (.int .u16 (u.a7 : Int)) (.int .i64 u.port) (.bool u.opaq) (.slice A n c) (.bool u.hasQ) (.string u.query) (.bool u.hasF) (.string u.frag)) wx hb).1.out
  have HA : Hid (Calls Tryd.prog 8 #[] W (Yes12 W)) := awake12 (HC.out.behind HW.out)
  have HF := Lib.hid (fun wx (hb : Below W.heap.size W wx) => rfew_is hfew A n c hn hl wx (hs.below (bn12 HW.out hb)) hf)
  obtain ⟨g, hg⟩ : ∃ g, w.heap.size = g := ⟨_, rfl⟩
  have hgW : g < W.heap.size := by rw [← hW, ← hg]; simp
  have hwee := few12_wee hu hfew
  have HWee := Lib.hid hwee
  have hwee2 := wee12_5 hwee hfew
  have HSg := Lib.hid (fun wx (hb : Below W.heap.size W wx) => hs.below (bn12 HW.out hb))
  have HN := Lib.hid (And.intro hn hc.2)
  have hn50 : n ≤ 50 := by have := hwee.len; omega
  have HAt : Hid (∀ wx, Below W.heap.size W wx → At12 wx u A n c) := fun wx hb => ⟨hs.below (bn12 HW.out hb), hn, hc.1, hc.2, hwee⟩
  obtain ⟨t, ht⟩ : ∃ t, txt10 (text12 u false) = t := ⟨_, rfl⟩
  have H1 := Lib.hid (fun wx hb A8 c8 (ha : At12 wx u A n c) (he : At12 wx u A8 n c8) => csame12 HC.out (same12_self u) wx hb ha he)
  have H2 := Lib.hid (fun wx hb (ha : At12 wx u A n c) => ctext12 HC.out ht wx hb ha)
  have H3 := Lib.hid (fun wx hb A8 c8 (ha : At12 wx u A8 n c8) => ctext12 HC.out ht wx hb ha)
  have H4 := Lib.hid (fun wx hb A8 m8 c8 (ha : At12 wx u A n c) (he : At12 wx ({ u with path := u.path ++ [[]] } : Url12) A8 m8 c8) => csame12 HC.out (one12_5 hu) wx hb ha he)
  rw [hg] at HCs
  have HgW := Lib.hid hgW
  have HW2 := Lib.hid hwee2
  have hk2 : k.tmod 8 = 5 := by rw [Int.tmod_eq_emod_of_nonneg k0]; exact hk
  have z1 := hwee.scheme; have z2 := hwee.user; have z3 := hwee.pass
  clear ht hfew hs hn hl hc hf hu hwee hgW hwee2
  go_enter Tryd.func5, Tryd.ntmps5
  go_wp2_with (first
    | (go_at_call 8; (try rw [hW]); refine HA.out.mono ?_; rintro e w1 ⟨rfl, hb⟩; have HBc := Lib.hid hb; (try rw [hg]); have s0 := HCs.out _ hb; clear hb)
    | (go_at_call 9; (with_reducible refine (HF.out _ HBc.out).mono ?_); rintro e w2 ⟨rfl, hb⟩; have HBc := Lib.hid (bn12 HBc.out hb); clear s0; have s0 := HCs.out _ HBc.out; have hlt := Nat.lt_of_lt_of_le HgW.out HBc.out.size; have q6 := (blk_cell12 s0 16 rfl).1; have hlW := Lib.hid HBc.out.size; clear hb)
    | (at_builtin
       refine append_segs rfl (.tmp 14) (.tmp 16) rfl (w2.heap.size + 1) _ [] A n c u.path rfl rfl (rowS_at (by simp only [World.size_alloc])) (HSg.out _ (bn12 HBc.out (bn12 (bel12 _ _) (bel12 _ _)))) HN.out.1.symm HN.out.2 (by have := HN.out.1; simp; omega) (by simp only [World.size_alloc]; omega) ?_
       intro v3 w3 hr3 hb3
       have hr4 := rowS_set hr3 (p := ⟨w2.heap.size, 16, none⟩) (Nat.lt_succ_self _) v3
       obtain ⟨A8, c8, hv8, hcc8, hs8⟩ := hr4.segs
       rw [List.nil_append] at hr4
       rw [List.nil_append, HN.out.1] at hv8 hcc8
       rw [List.nil_append] at hs8
       subst hv8
       have hB3 : Below (w2.heap.size + 1) ((w2.alloc (.cells #[.string u.scheme, .string u.user, .string u.pass, .int .i64 u.kind, .string u.name, .int .u32 (u.v4 : Int), .int .u16 (u.a0 : Int), .int .u16 (u.a1 : Int), .int .u16 (u.a2 : Int), .int .u16 (u.a3 : Int), .int .u16 (u.a4 : Int), .int .u16 (u.a5 : Int), .int .u16 (u.a6 : Int), .int .u16 (u.a7 : Int), .int .i64 u.port, .bool u.opaq, .slice A n c, .bool u.hasQ, .string u.query, .bool u.hasF, .string u.frag] 29)).alloc (.cells #[] 9)) w3 := hb3
       have hX : Below w2.heap.size w2 w3 := (bn12 (bel12 w2 (.cells #[.string u.scheme, .string u.user, .string u.pass, .int .i64 u.kind, .string u.name, .int .u32 (u.v4 : Int), .int .u16 (u.a0 : Int), .int .u16 (u.a1 : Int), .int .u16 (u.a2 : Int), .int .u16 (u.a3 : Int), .int .u16 (u.a4 : Int), .int .u16 (u.a5 : Int), .int .u16 (u.a6 : Int), .int .u16 (u.a7 : Int), .int .i64 u.port, .bool u.opaq, .slice A n c, .bool u.hasQ, .string u.query, .bool u.hasF, .string u.frag] 29)) (bel12 _ (.cells #[] 9))).trans (hB3.mono (by omega))
       have hg1 : blk12 w3 w2.heap.size = some (.cells #[.string u.scheme, .string u.user, .string u.pass, .int .i64 u.kind, .string u.name, .int .u32 (u.v4 : Int), .int .u16 (u.a0 : Int), .int .u16 (u.a1 : Int), .int .u16 (u.a2 : Int), .int .u16 (u.a3 : Int), .int .u16 (u.a4 : Int), .int .u16 (u.a5 : Int), .int .u16 (u.a6 : Int), .int .u16 (u.a7 : Int), .int .i64 u.port, .bool u.opaq, .slice A n c, .bool u.hasQ, .string u.query, .bool u.hasF, .string u.frag] 29 (0, 0)) := (hB3.block w2.heap.size (by omega)).trans ((heap_old12 _ _ _ (by simp)).trans (heap_here12 _ _ _ rfl))
       have hY : Hid (Below W.heap.size W (w3.setCell ⟨w2.heap.size, 16, none⟩ (.slice A8 n c8))) := (bn12 HBc.out hX).setCell (by simpa using HBc.out.size) _
       have hU : blk12 (w3.setCell ⟨w2.heap.size, 16, none⟩ (.slice A8 n c8)) g = some (.cells #[.string u.scheme, .string u.user, .string u.pass, .int .i64 u.kind, .string u.name, .int .u32 (u.v4 : Int), .int .u16 (u.a0 : Int), .int .u16 (u.a1 : Int), .int .u16 (u.a2 : Int), .int .u16 (u.a3 : Int), .int .u16 (u.a4 : Int), .int .u16 (u.a5 : Int), .int .u16 (u.a6 : Int), .int .u16 (u.a7 : Int), .int .i64 u.port, .bool u.opaq, .slice A n c, .bool u.hasQ, .string u.query, .bool u.hasF, .string u.frag] 29 (0, 0)) := (heap_other12 _ _ _ _ _ (Nat.ne_of_gt hlt)).trans (HCs.out _ (bn12 HBc.out hX))
       have hV : blk12 (w3.setCell ⟨w2.heap.size, 16, none⟩ (.slice A8 n c8)) w2.heap.size = some (.cells #[.string u.scheme, .string u.user, .string u.pass, .int .i64 u.kind, .string u.name, .int .u32 (u.v4 : Int), .int .u16 (u.a0 : Int), .int .u16 (u.a1 : Int), .int .u16 (u.a2 : Int), .int .u16 (u.a3 : Int), .int .u16 (u.a4 : Int), .int .u16 (u.a5 : Int), .int .u16 (u.a6 : Int), .int .u16 (u.a7 : Int), .int .i64 u.port, .bool u.opaq, .slice A8 n c8, .bool u.hasQ, .string u.query, .bool u.hasF, .string u.frag] 29 (0, 0)) := (heap_put12 _ _ _ _).trans (by rw [hg1]; rfl)
       have HC2 : Hid (∀ wx, Below ((w3.setCell ⟨w2.heap.size, 16, none⟩ (.slice A8 n c8))).heap.size (w3.setCell ⟨w2.heap.size, 16, none⟩ (.slice A8 n c8)) wx → blk12 wx g = some (.cells #[.string u.scheme, .string u.user, .string u.pass, .int .i64 u.kind, .string u.name, .int .u32 (u.v4 : Int), .int .u16 (u.a0 : Int), .int .u16 (u.a1 : Int), .int .u16 (u.a2 : Int), .int .u16 (u.a3 : Int), .int .u16 (u.a4 : Int), .int .u16 (u.a5 : Int), .int .u16 (u.a6 : Int), .int .u16 (u.a7 : Int), .int .i64 u.port, .bool u.opaq, .slice A n c, .bool u.hasQ, .string u.query, .bool u.hasF, .string u.frag] 29 (0, 0)) ∧ blk12 wx w2.heap.size = some (.cells #[.string u.scheme, .string u.user, .string u.pass, .int .i64 u.kind, .string u.name, .int .u32 (u.v4 : Int), .int .u16 (u.a0 : Int), .int .u16 (u.a1 : Int), .int .u16 (u.a2 : Int), .int .u16 (u.a3 : Int), .int .u16 (u.a4 : Int), .int .u16 (u.a5 : Int), .int .u16 (u.a6 : Int), .int .u16 (u.a7 : Int), .int .i64 u.port, .bool u.opaq, .slice A8 n c8, .bool u.hasQ, .string u.query, .bool u.hasF, .string u.frag] 29 (0, 0))) := Lib.hid fun wx hb => ⟨blk_below12 hU hb, blk_below12 hV hb⟩
       have HV8 : Hid (∀ wx, Below ((w3.setCell ⟨w2.heap.size, 16, none⟩ (.slice A8 n c8))).heap.size (w3.setCell ⟨w2.heap.size, 16, none⟩ (.slice A8 n c8)) wx → At12 wx u A8 n c8) := Lib.hid fun wx hb => ⟨hs8.below hb, HN.out.1, hcc8.1, hcc8.2, HWee.out⟩
       have HBy := Lib.hid (Below.refl ((w3.setCell ⟨w2.heap.size, 16, none⟩ (.slice A8 n c8))).heap.size (w3.setCell ⟨w2.heap.size, 16, none⟩ (.slice A8 n c8)))
       have hB16 : Hid (w2.heap.size + 1 ≤ ((w3.setCell ⟨w2.heap.size, 16, none⟩ (.slice A8 n c8))).heap.size) := by
         show _ ≤ _
         have := hb3.size
         simp only [World.size_alloc, World.size_setCell] at this ⊢
         omega
       have HR8 : Hid (RowS (w2.heap.size + 1) (w3.setCell ⟨w2.heap.size, 16, none⟩ (.slice A8 n c8)) (.slice A8 n c8) u.path) := hr4
       have HCc := Lib.hid hcc8
       have s1 := And.intro hU hV
       have hne : w2.heap.size ≠ g := Nat.ne_of_gt hlt
       have q8 := (blk_cell12 hg1 16 rfl)
       obtain ⟨q8, q9⟩ := q8
       clear hr3 hr4 hb3 hs8 hcc8 hB3 hX hg1 hU hV s0))
  clear hW hg
  go_region_held3 (fun wx => blk12 wx g = some (.cells #[.string u.scheme, .string u.user, .string u.pass, .int .i64 u.kind, .string u.name, .int .u32 (u.v4 : Int), .int .u16 (u.a0 : Int), .int .u16 (u.a1 : Int), .int .u16 (u.a2 : Int), .int .u16 (u.a3 : Int), .int .u16 (u.a4 : Int), .int .u16 (u.a5 : Int), .int .u16 (u.a6 : Int), .int .u16 (u.a7 : Int), .int .i64 u.port, .bool u.opaq, .slice A n c, .bool u.hasQ, .string u.query, .bool u.hasF, .string u.frag] 29 (0, 0)) ∧ blk12 wx w2.heap.size = some (.cells #[.string u.scheme, .string u.user, .string u.pass, .int .i64 u.kind, .string u.name, .int .u32 (u.v4 : Int), .int .u16 (u.a0 : Int), .int .u16 (u.a1 : Int), .int .u16 (u.a2 : Int), .int .u16 (u.a3 : Int), .int .u16 (u.a4 : Int), .int .u16 (u.a5 : Int), .int .u16 (u.a6 : Int), .int .u16 (u.a7 : Int), .int .i64 u.port, .bool u.opaq, .slice A8 n c8, .bool u.hasQ, .string u.query, .bool u.hasF, .string u.frag] 29 (0, 0))) (first | exact s1 | exact hS4 | exact hS5 | exact hS6 | go_keep) (first
    | (go_at_call 14; (with_reducible refine (H1.out _ (bn12 HW.out (bn12 hY.out (by first | exact HBy.out | exact HBy.out.drew))) _ _ (HAt.out _ (bn12 hY.out (by first | exact HBy.out | exact HBy.out.drew))) (HV8.out _ (by first | exact HBy.out | exact HBy.out.drew))).mono ?_); rintro e w4 ⟨rfl, hb1⟩; (first | have HBy := Lib.hid (bn12 HBy.out hb1) | have HBy := Lib.hid (bnd12 HBy.out hb1)); have hS4 := (HC2.out _ HBy.out); clear hb1)
    | (go_at_call 10; (with_reducible refine (H2.out _ (bn12 HW.out (bn12 hY.out (by first | exact HBy.out | exact HBy.out.drew))) (HAt.out _ (bn12 hY.out (by first | exact HBy.out | exact HBy.out.drew)))).mono ?_); rintro e w5 ⟨rfl, hb1⟩; (first | have HBy := Lib.hid (bn12 HBy.out hb1) | have HBy := Lib.hid (bnd12 HBy.out hb1)); have hS5 := (HC2.out _ HBy.out); clear hb1)
    | (go_at_call 10; (with_reducible refine (H3.out _ (bn12 HW.out (bn12 hY.out (by first | exact HBy.out | exact HBy.out.drew))) _ _ (HV8.out _ (by first | exact HBy.out | exact HBy.out.drew))).mono ?_); rintro e w6 ⟨rfl, hb1⟩; (first | have HBy := Lib.hid (bn12 HBy.out hb1) | have HBy := Lib.hid (bnd12 HBy.out hb1)); have hS6 := (HC2.out _ HBy.out); clear hb1))
  all_goals
    have hS := HC2.out _ HBy.out
    obtain ⟨hS7, hS8⟩ := hS
    obtain ⟨c1, c2⟩ := blk_cell12 hS8 16 rfl
    go_wp2_with (first
      | (at_builtin
         refine append_segs rfl (.tmp 70) (.tmp 71) rfl (w2.heap.size + 1) _ u.path _ 1 1 [([] : Seg)] rfl rfl ((HR8.out.below HBy.out).below (bel12 _ _)) (segs_one _ ([] : Seg) rfl) rfl (fun e => by cases e) (by have := HN.out.1; simp; omega) (Nat.le_trans hB16.out (Nat.le_trans HBy.out.size (bel12 _ _).size)) ?_
         intro v9 wa hr9 hb9
         have hr6 := rowS_set hr9 (p := ⟨w2.heap.size, 16, none⟩) (Nat.lt_succ_self _) v9
         obtain ⟨A9, c9, hv9, hcc9, hs9⟩ := hr6.segs
         have hl9 : (u.path ++ [([] : Seg)]).length = n + 1 := by rw [List.length_append, HN.out.1]; rfl
         rw [hl9] at hv9 hcc9
         subst hv9
         have HL9 := Lib.hid hl9
         have HC9 := Lib.hid hcc9
         have HS9 := Lib.hid hs9
         have hle : W.heap.size ≤ w2.heap.size + 1 := Nat.le_succ_of_le hlW.out
         have HZ : Hid (Below W.heap.size W (wa.setCell ⟨w2.heap.size, 16, none⟩ (.slice A9 (n + 1) c9))) := ((bn12 (bn12 hY.out HBy.out) (bel12 _ (.cells #[.string ⟨#[]⟩] 9))).trans (hb9.mono hle)).setCell (by simpa using hlW.out) _
         have r7 := (hb9.block g (Nat.lt_succ_of_lt hlt)).trans ((heap_old12 _ (.cells #[.string ⟨#[]⟩] 9) _ (blk_lt12 hS7)).trans hS7)
         have r8 := (hb9.block w2.heap.size (Nat.lt_succ_self _)).trans ((heap_old12 _ (.cells #[.string ⟨#[]⟩] 9) _ (blk_lt12 hS8)).trans hS8)
         have r7 : blk12 wa g = some (.cells #[.string u.scheme, .string u.user, .string u.pass, .int .i64 u.kind, .string u.name, .int .u32 (u.v4 : Int), .int .u16 (u.a0 : Int), .int .u16 (u.a1 : Int), .int .u16 (u.a2 : Int), .int .u16 (u.a3 : Int), .int .u16 (u.a4 : Int), .int .u16 (u.a5 : Int), .int .u16 (u.a6 : Int), .int .u16 (u.a7 : Int), .int .i64 u.port, .bool u.opaq, .slice A n c, .bool u.hasQ, .string u.query, .bool u.hasF, .string u.frag] 29 (0, 0)) := r7
         have r8 : blk12 wa w2.heap.size = some (.cells #[.string u.scheme, .string u.user, .string u.pass, .int .i64 u.kind, .string u.name, .int .u32 (u.v4 : Int), .int .u16 (u.a0 : Int), .int .u16 (u.a1 : Int), .int .u16 (u.a2 : Int), .int .u16 (u.a3 : Int), .int .u16 (u.a4 : Int), .int .u16 (u.a5 : Int), .int .u16 (u.a6 : Int), .int .u16 (u.a7 : Int), .int .i64 u.port, .bool u.opaq, .slice A8 n c8, .bool u.hasQ, .string u.query, .bool u.hasF, .string u.frag] 29 (0, 0)) := r8
         obtain ⟨e1, e2⟩ := blk_cell12 r8 16 rfl
         clear hr9 hr6 hb9 hcc9 hs9 hl9 hle)
      | (go_at_call 14; (refine (H4.out _ (bn12 HW.out HZ.out) _ _ _ (HAt.out _ HZ.out) ⟨HS9.out, HL9.out, HC9.out.1, HC9.out.2, HW2.out⟩).mono ?_); rintro e w9 ⟨rfl, hb⟩; have HB9 := Lib.hid (bn12 HZ.out hb); clear hb))
    go_ret
    exact ⟨by simp, bn12 HW.out HB9.out⟩
end Go.Proofs.YtliklhldlofnjaaDoor

/-
  The law RecordOne of layer 12, over the program's contracts (written by mkrec.py).
-/
namespace Go.Proofs.YtliklhldlofnjaaDoor
open Go.RowKit
attribute [local go_sem ↓] foldL12 foldS12
attribute [local go_sem] loadU_run viaRow_cells storeU_run viaStore_cells setRow_here12 heap_here12 heap_old12 heap_put12 put12_cells heap_other12 blk_drew12


set_option maxHeartbeats 8000000 in
set_option maxRecDepth 100000 in
theorem law_one12 (u : Url12) (A : Option Addr) (n c : Nat) (k : Int) (w : World) (hs : Segs w A u.path) (hn : u.path.length = n) (hl : n ≤ maxLen) (hc : n ≤ c ∧ (A = none → c = 0)) (hf : Fits12 u) (hu : Nums12 u) (k0 : 0 ≤ k) (k1 : k ≤ 255) (C : RecC w) :
    Calls Tryd.prog 5 #[.agg #[.string u.scheme, .string u.user, .string u.pass, .int .i64 u.kind, .string u.name, .int .u32 (u.v4 : Int), .int .u16 (u.a0 : Int), .int .u16 (u.a1 : Int), .int .u16 (u.a2 : Int), .int .u16 (u.a3 : Int), .int .u16 (u.a4 : Int), .int .u16 (u.a5 : Int), .int .u16 (u.a6 : Int), .int .u16 (u.a7 : Int), .int .i64 u.port, .bool u.opaq, .slice A n c, .bool u.hasQ, .string u.query, .bool u.hasF, .string u.frag], .int .u8 k] w (Yes12 w) := by
  cases hfew : few12 u with
  | true =>
    have h8 : k % 8 = 0 ∨ k % 8 = 1 ∨ k % 8 = 2 ∨ k % 8 = 3 ∨ k % 8 = 4 ∨ k % 8 = 5 ∨ k % 8 = 6 ∨ k % 8 = 7 := by omega
    rcases h8 with h | h | h | h | h | h | h | h
    · exact law_one12_0 u A n c k w hs hn hl hc hf hu k0 k1 C hfew h
    · exact law_one12_1 u A n c k w hs hn hl hc hf hu k0 k1 C hfew h
    · exact law_one12_2 u A n c k w hs hn hl hc hf hu k0 k1 C hfew h
    · exact law_one12_3 u A n c k w hs hn hl hc hf hu k0 k1 C hfew h
    · exact law_one12_4 u A n c k w hs hn hl hc hf hu k0 k1 C hfew h
    · exact law_one12_5 u A n c k w hs hn hl hc hf hu k0 k1 C hfew h
    · exact law_one12_6 u A n c k w hs hn hl hc hf hu k0 k1 C hfew h
    · exact law_one12_7 u A n c k w hs hn hl hc hf hu k0 k1 C hfew h
  | false =>
    have HC := Lib.hid C
    clear C
    obtain ⟨W, hW⟩ : ∃ W, (w.alloc (.cells #[.string u.scheme, .string u.user, .string u.pass, .int .i64 u.kind, .string u.name, .int .u32 (u.v4 : Int), .int .u16 (u.a0 : Int), .int .u16 (u.a1 : Int), .int .u16 (u.a2 : Int), .int .u16 (u.a3 : Int), .int .u16 (u.a4 : Int), .int .u16 (u.a5 : Int), .int .u16 (u.a6 : Int), .int .u16 (u.a7 : Int), .int .i64 u.port, .bool u.opaq, .slice A n c, .bool u.hasQ, .string u.query, .bool u.hasF, .string u.frag] 29)) = W := ⟨_, rfl⟩
    have HW : Hid (Below w.heap.size w W) := by show Below w.heap.size w W; rw [← hW]; exact bel12 _ _
    have HCs : Hid (∀ wx, Below W.heap.size W wx → blk12 wx w.heap.size = some (.cells #[.string u.scheme, .string u.user, .string u.pass, .int .i64 u.kind, .string u.name, .int .u32 (u.v4 : Int), .int .u16 (u.a0 : Int), .int .u16 (u.a1 : Int), .int .u16 (u.a2 : Int), .int .u16 (u.a3 : Int), .int .u16 (u.a4 : Int), .int .u16 (u.a5 : Int), .int .u16 (u.a6 : Int), .int .u16 (u.a7 : Int), .int .i64 u.port, .bool u.opaq, .slice A n c, .bool u.hasQ, .string u.query, .bool u.hasF, .string u.frag] 29 (0, 0))) := by
      show ∀ wx, Below W.heap.size W wx → _
      subst hW
      exact fun wx hb => ((cells12 (.string u.scheme) (.string u.user) (.string u.pass) (.int .i64 u.kind) (.string u.name) (.int .u32 (u.v4 : Int)) (.int .u16 (u.a0 : Int)) (.int .u16 (u.a1 : Int)) (.int .u16 (u.a2 : Int)) (.int .u16 (u.a3 : Int)) (.int .u16 (u.a4 : Int)) (.int .u16 (u.a5 : Int)) (.int .u16 (u.a6 : Int)) (.int .u16 (u.a7 : Int)) (.int .i64 u.port) (.bool u.opaq) (.slice A n c) (.bool u.hasQ) (.string u.query) (.bool u.hasF) (.string u.frag)) wx hb).1.out
    have HA : Hid (Calls Tryd.prog 8 #[] W (Yes12 W)) := awake12 (HC.out.behind HW.out)
    have HF := Lib.hid (fun wx (hb : Below W.heap.size W wx) => rfew_is hfew A n c hn hl wx (hs.below (bn12 HW.out hb)) hf)
    obtain ⟨g, hg⟩ : ∃ g, w.heap.size = g := ⟨_, rfl⟩
    rw [hg] at HCs
    clear hs hn hl hc hf hu
    go_enter Tryd.func5, Tryd.ntmps5
    go_wp2_with (first
      | (go_at_call 8; (try rw [hW]); refine HA.out.mono ?_; rintro e w1 ⟨rfl, hb⟩; have HBc := Lib.hid hb; (try rw [hg]); have s0 := HCs.out _ hb; clear hb)
      | (go_at_call 9; (with_reducible refine (HF.out _ HBc.out).mono ?_); rintro e w2 ⟨rfl, hb⟩; have HBc := Lib.hid (bn12 HBc.out hb); clear hb))
    go_ret
    exact ⟨rfl, bn12 HW.out HBc.out⟩
end Go.Proofs.YtliklhldlofnjaaDoor

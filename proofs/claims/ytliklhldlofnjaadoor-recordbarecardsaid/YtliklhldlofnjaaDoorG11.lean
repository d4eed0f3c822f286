/-
  In this text, one behind the other: RecFold, RecAwk.
-/
import Derived.BigQuiet
import Derived.Deep.AppendLies
import Derived.Deep.Light
import Derived.Deep.LoopGhost
import Derived.Deep.QuietTactic
import Derived.Deep.RegionHeld3
import Derived.Deep.RegionWith
import Derived.Deep.WholeRow
import Derived.IntWalk
import Derived.LaidEql
import Derived.Laws.AppendOwnNone
import Derived.Laws.BitsLemmas
import Derived.Laws.Cover4
import Derived.Laws.Rows
import Derived.Laws.Tables
import Derived.Lib.Hide
import Derived.Maps.AppendAt
import Derived.RowKitTokens
import Derived.Stop.Asserts
import Derived.WalkKit
import Derived.WalkLawsBesides
import Derived.WalkSpells
import Derived.Test.YtliklhldlofnjaaDoorRows
import Derived.Test.YtliklhldlofnjaaDoorG10
/-
  A URL's variable, read and written whole (written by mkrec.py).
-/
namespace Go.Proofs.YtliklhldlofnjaaDoor
open Go.RowKit

def loadU (a : Addr) : Sem Value := loadVar 29 a
theorem foldL12 (a : Addr) : loadVar 29 a = loadU a := rfl
def viaRow (o : Option Obj) (w : World) (slow : Result Value) : Result Value := match o with
  | some (.cells cs _ _) => if cs.size = 21 then .ok (.agg cs) w else slow
  | _ => slow
def blk12 (w : World) (g : Nat) : Option Obj := w.heap[g]?
noncomputable def slowL (g : Nat) (w : World) : Result Value := (loadU ⟨g, 0, none⟩).run Tryd.prog w
theorem size12 : (Tryd.prog.info? 29).map (·.size) = some 21 := by kernel_rfl
theorem loadU_run (g : Nat) (w : World) : (loadU ⟨g, 0, none⟩).run Tryd.prog w = viaRow (blk12 w g) w (slowL g w) := by
  unfold viaRow blk12
  split
  · rename_i cs t fr h
    split
    · rename_i hs
      exact run_loadVar_row w g t 29 cs fr _ h Tryd.underlying29 rfl (size12.trans (by rw [hs]))
    · rfl
  · rfl
theorem viaRow_cells (x0 x1 x2 x3 x4 x5 x6 x7 x8 x9 x10 x11 x12 x13 x14 x15 x16 x17 x18 x19 x20 : Value) (t : TypeId) (fr : Nat × Nat) (w : World) (s : Result Value) : viaRow (some (.cells #[x0, x1, x2, x3, x4, x5, x6, x7, x8, x9, x10, x11, x12, x13, x14, x15, x16, x17, x18, x19, x20] t fr)) w s = .ok (.agg #[x0, x1, x2, x3, x4, x5, x6, x7, x8, x9, x10, x11, x12, x13, x14, x15, x16, x17, x18, x19, x20]) w := rfl
def storeU (a : Addr) (v : Value) : Sem Unit := storeVar 29 a v
theorem foldS12 (a : Addr) (v : Value) : storeVar 29 a v = storeU a v := rfl
noncomputable def slowS (g : Nat) (cs : Array Value) (w : World) : Result Unit := (storeU ⟨g, 0, none⟩ (.agg cs)).run Tryd.prog w
def viaStore (o : Option Obj) (g : Nat) (cs : Array Value) (w : World) (slow : Result Unit) : Result Unit := match o with
  | some (.cells old _ fr) => if fr = (0, 0) ∧ old.size = 21 ∧ cs.size = 21 ∧ cs.all (·.oneCell') = true then .ok () (w.setRow g cs) else slow
  | _ => slow
theorem storeU_run (g : Nat) (cs : Array Value) (w : World) : (storeU ⟨g, 0, none⟩ (.agg cs)).run Tryd.prog w = viaStore (blk12 w g) g cs w (slowS g cs w) := by
  unfold viaStore blk12
  split
  · rename_i old t fr h
    split
    · rename_i hs
      obtain ⟨rfl, h1, h2, h3⟩ := hs
      exact run_storeVar_row w g t 29 old cs h (size12.trans (by rw [h2])) (h1.trans h2.symm) h3
    · rfl
  · rfl
theorem viaStore_cells (p0 : ByteArray) (p1 : ByteArray) (p2 : ByteArray) (k3 : IntKind) (p3 : Int) (p4 : ByteArray) (k5 : IntKind) (p5 : Int) (k6 : IntKind) (p6 : Int) (k7 : IntKind) (p7 : Int) (k8 : IntKind) (p8 : Int) (k9 : IntKind) (p9 : Int) (k10 : IntKind) (p10 : Int) (k11 : IntKind) (p11 : Int) (k12 : IntKind) (p12 : Int) (k13 : IntKind) (p13 : Int) (k14 : IntKind) (p14 : Int) (p15 : Bool) (p16 : Option Addr) (m16 d16 : Nat) (p17 : Bool) (p18 : ByteArray) (p19 : Bool) (p20 : ByteArray) (y0 y1 y2 y3 y4 y5 y6 y7 y8 y9 y10 y11 y12 y13 y14 y15 y16 y17 y18 y19 y20 : Value) (t : TypeId) (g : Nat) (w : World) (s : Result Unit) : viaStore (some (.cells #[y0, y1, y2, y3, y4, y5, y6, y7, y8, y9, y10, y11, y12, y13, y14, y15, y16, y17, y18, y19, y20] t (0, 0))) g #[.string p0, .string p1, .string p2, .int k3 p3, .string p4, .int k5 p5, .int k6 p6, .int k7 p7, .int k8 p8, .int k9 p9, .int k10 p10, .int k11 p11, .int k12 p12, .int k13 p13, .int k14 p14, .bool p15, .slice p16 m16 d16, .bool p17, .string p18, .bool p19, .string p20] w s = .ok () (w.setRow g #[.string p0, .string p1, .string p2, .int k3 p3, .string p4, .int k5 p5, .int k6 p6, .int k7 p7, .int k8 p8, .int k9 p9, .int k10 p10, .int k11 p11, .int k12 p12, .int k13 p13, .int k14 p14, .bool p15, .slice p16 m16 d16, .bool p17, .string p18, .bool p19, .string p20]) := by
  unfold viaStore
  exact if_pos ⟨rfl, rfl, rfl, by simp [Value.oneCell']⟩
theorem heap_new12 (w : World) (o : Obj) : blk12 (w.alloc o) w.heap.size = some o := heap_alloc_last w o
theorem heap_two12 (w : World) (a b : Obj) : blk12 ((w.alloc a).alloc b) (w.heap.size + 1) = some b := by
  unfold blk12
  have := heap_alloc_last (w.alloc a) b
  rwa [World.size_alloc] at this
theorem heap_old12 (w : World) (o : Obj) (g : Nat) (h : g < w.heap.size) : blk12 (w.alloc o) g = blk12 w g := Below.heap_alloc _ _ _ h
def put12 (j : Nat) (x : Value) : Option Obj → Option Obj
  | some (.cells cs t fr) => some (.cells (cs.setIfInBounds j x) t fr)
  | o => o
theorem put12_cells (j : Nat) (x : Value) (cs : Array Value) (t : TypeId) (fr : Nat × Nat) : put12 j x (some (.cells cs t fr)) = some (.cells (cs.setIfInBounds j x) t fr) := rfl
theorem heap_put12 (w : World) (g j : Nat) (x : Value) : blk12 (w.setCell ⟨g, j, none⟩ x) g = put12 j x (blk12 w g) := by
  unfold blk12 put12 World.setCell
  simp only [Array.getElem?_modify, if_true]
  cases w.heap[g]? with
  | none => rfl
  | some o => cases o <;> rfl
theorem heap_other12 (w : World) (g k j : Nat) (x : Value) (h : k ≠ g) : blk12 (w.setCell ⟨k, j, none⟩ x) g = blk12 w g := by
  unfold blk12 World.setCell
  simp only [Array.getElem?_modify]
  rw [if_neg h]
theorem heap_here12 (w : World) (o : Obj) (g : Nat) (h : g = w.heap.size) : blk12 (w.alloc o) g = some o := h ▸ heap_alloc_last w o
theorem setRow_here12 (w : World) (c c' : Array Value) (t : TypeId) (g : Nat) (h : g = w.heap.size) : (w.alloc (.cells c t)).setRow g c' = w.alloc (.cells c' t) := h ▸ World.setRow_alloc_new w c c' t
theorem blk_drew12 (w : World) (g : Nat) : blk12 w.drew g = blk12 w g := rfl
end Go.Proofs.YtliklhldlofnjaaDoor

/-
  The example of layer 12 (written by mkrec.py).
-/
namespace Go.Proofs.YtliklhldlofnjaaDoor
open Go.RowKit
attribute [local go_sem ↓] foldL12 foldS12
attribute [local go_sem] loadU_run viaRow_cells storeU_run viaStore_cells setRow_here12 heap_here12 heap_old12 heap_put12 put12_cells heap_other12 blk_drew12

def aU : Url12 := ⟨⟨#[104, 116, 116, 112]⟩, ⟨#[]⟩, ⟨#[]⟩, 2, ⟨#[97]⟩, 0, 0, 0, 0, 0, 0, 0, 0, 0, 8080, false, [[120]], false, ⟨#[]⟩, true, ⟨#[]⟩⟩
def aV : Url12 := ⟨⟨#[121]⟩, ⟨#[]⟩, ⟨#[]⟩, 0, ⟨#[]⟩, 0, 0, 0, 0, 0, 0, 0, 0, 0, (-1), false, [[], [122]], false, ⟨#[]⟩, false, ⟨#[]⟩⟩
def aQ : Url12 := ⟨⟨#[]⟩, ⟨#[]⟩, ⟨#[]⟩, 0, ⟨#[]⟩, 0, 0, 0, 0, 0, 0, 0, 0, 0, 0, true, [[113]], false, ⟨#[]⟩, false, ⟨#[]⟩⟩
theorem aU_wee : Wee12 aU := ⟨⟨by decide, by decide, by decide, by decide, by decide, by decide⟩, by decide, by decide, by decide, by decide, by decide, by decide, by decide, by decide⟩
theorem aV_wee : Wee12 aV := ⟨⟨by decide, by decide, by decide, by decide, by decide, by decide⟩, by decide, by decide, by decide, by decide, by decide, by decide, by decide, by decide⟩
theorem aQ_wee : Wee12 aQ := ⟨⟨by decide, by decide, by decide, by decide, by decide, by decide⟩, by decide, by decide, by decide, by decide, by decide, by decide, by decide, by decide⟩
theorem dcm_8080 : dcm10 8080 = [56, 48, 56, 48] := by
  rw [dcm10, if_neg (by decide), dcm10, if_neg (by decide), dcm10, if_neg (by decide), dcm10, if_pos (by decide)]
  rfl
theorem aU_port : port12 aU = [58, 56, 48, 56, 48] := by
  show (if (0 : Int) ≤ 8080 then 58 :: dcm10 8080 else []) = _
  rw [if_pos (by decide), dcm_8080]
theorem aU_bare : txt10 (text12 aU true) = ⟨#[104, 116, 116, 112, 58, 47, 47, 97, 58, 56, 48, 56, 48, 47, 120]⟩ := by
  unfold text12 front12
  rw [aU_port]
  rfl
theorem aU_full : txt10 (text12 aU false) = ⟨#[104, 116, 116, 112, 58, 47, 47, 97, 58, 56, 48, 56, 48, 47, 120, 35]⟩ := by
  unfold text12 front12
  rw [aU_port]
  rfl
theorem aV_bare : txt10 (text12 aV true) = ⟨#[121, 58, 47, 46, 47, 47, 122]⟩ := by rfl
theorem aQ_path : txt10 (path12 aQ) = ⟨#[113]⟩ := by rfl
theorem aU_self : same12 aU aU = true := same12_self aU
theorem aUV : same12 aU aV = false := by
  unfold same12
  exact decide_eq_false fun h => absurd h.2.2.2.2.1 (by decide)
theorem segs_of {w : World} {b : Nat} {cs : Array Value} {ps : List Seg} {t : TypeId} (h : blk12 w b = some (.cells cs t (0, 0))) (hb : b < w.heap.size) (hc : ∀ (i : Nat) (p : Seg), ps[i]? = some p → cs[i]? = some (Value.string (txt10 p))) : Segs w (some ⟨b, 0, none⟩) ps := by
  intro i x hx
  rw [List.getElem?_map] at hx
  obtain ⟨p, hp, rfl⟩ := Option.map_eq_some_iff.1 hx
  refine ⟨b, 0, rfl, hb, ?_⟩
  have := hc i p hp
  unfold blk12 at h
  simp [World.cell?, h, this]
theorem blk_below12 {w w' : World} {g : Nat} {o : Obj} (h : blk12 w g = some o) (hb : Below w.heap.size w w') : blk12 w' g = some o := (hb.block g (Array.getElem?_eq_some_iff.1 h).1).trans h
theorem blk_lt12 {w : World} {g : Nat} {o : Obj} (h : blk12 w g = some o) : g < w.heap.size := (Array.getElem?_eq_some_iff.1 h).1
theorem awk12_all (w1 : World) : ∀ wx, Below (((((w1.alloc (.cells #[.string ⟨#[104, 116, 116, 112]⟩, .string ⟨#[]⟩, .string ⟨#[]⟩, .int .i64 2, .string ⟨#[97]⟩, .int .u32 0, .int .u16 0, .int .u16 0, .int .u16 0, .int .u16 0, .int .u16 0, .int .u16 0, .int .u16 0, .int .u16 0, .int .i64 8080, .bool false, .slice (some ⟨w1.heap.size + 1, 0, none⟩) 1 1, .bool false, .string ⟨#[]⟩, .bool true, .string ⟨#[]⟩] 29)).alloc (.cells #[.string ⟨#[120]⟩] 9)).alloc (.cells #[.string ⟨#[]⟩, .string ⟨#[122]⟩] 9)).alloc (.cells #[.string ⟨#[121]⟩, .string ⟨#[]⟩, .string ⟨#[]⟩, .int .i64 0, .string ⟨#[]⟩, .int .u32 0, .int .u16 0, .int .u16 0, .int .u16 0, .int .u16 0, .int .u16 0, .int .u16 0, .int .u16 0, .int .u16 0, .int .i64 (-1), .bool false, .slice (some ⟨w1.heap.size + 1 + 1, 0, none⟩) 2 2, .bool false, .string ⟨#[]⟩, .bool false, .string ⟨#[]⟩] 29))).heap.size ((((w1.alloc (.cells #[.string ⟨#[104, 116, 116, 112]⟩, .string ⟨#[]⟩, .string ⟨#[]⟩, .int .i64 2, .string ⟨#[97]⟩, .int .u32 0, .int .u16 0, .int .u16 0, .int .u16 0, .int .u16 0, .int .u16 0, .int .u16 0, .int .u16 0, .int .u16 0, .int .i64 8080, .bool false, .slice (some ⟨w1.heap.size + 1, 0, none⟩) 1 1, .bool false, .string ⟨#[]⟩, .bool true, .string ⟨#[]⟩] 29)).alloc (.cells #[.string ⟨#[120]⟩] 9)).alloc (.cells #[.string ⟨#[]⟩, .string ⟨#[122]⟩] 9)).alloc (.cells #[.string ⟨#[121]⟩, .string ⟨#[]⟩, .string ⟨#[]⟩, .int .i64 0, .string ⟨#[]⟩, .int .u32 0, .int .u16 0, .int .u16 0, .int .u16 0, .int .u16 0, .int .u16 0, .int .u16 0, .int .u16 0, .int .u16 0, .int .i64 (-1), .bool false, .slice (some ⟨w1.heap.size + 1 + 1, 0, none⟩) 2 2, .bool false, .string ⟨#[]⟩, .bool false, .string ⟨#[]⟩] 29)) wx → (At12 wx aU (some ⟨w1.heap.size + 1, 0, none⟩) 1 1 ∧ At12 wx aV (some ⟨w1.heap.size + 1 + 1, 0, none⟩) 2 2) ∧ blk12 wx w1.heap.size = some (.cells #[.string ⟨#[104, 116, 116, 112]⟩, .string ⟨#[]⟩, .string ⟨#[]⟩, .int .i64 2, .string ⟨#[97]⟩, .int .u32 0, .int .u16 0, .int .u16 0, .int .u16 0, .int .u16 0, .int .u16 0, .int .u16 0, .int .u16 0, .int .u16 0, .int .i64 8080, .bool false, .slice (some ⟨w1.heap.size + 1, 0, none⟩) 1 1, .bool false, .string ⟨#[]⟩, .bool true, .string ⟨#[]⟩] 29 (0, 0)) ∧ blk12 wx (w1.heap.size + 1 + 1 + 1) = some (.cells #[.string ⟨#[121]⟩, .string ⟨#[]⟩, .string ⟨#[]⟩, .int .i64 0, .string ⟨#[]⟩, .int .u32 0, .int .u16 0, .int .u16 0, .int .u16 0, .int .u16 0, .int .u16 0, .int .u16 0, .int .u16 0, .int .u16 0, .int .i64 (-1), .bool false, .slice (some ⟨w1.heap.size + 1 + 1, 0, none⟩) 2 2, .bool false, .string ⟨#[]⟩, .bool false, .string ⟨#[]⟩] 29 (0, 0)) := by
  intro wx hb
  have h0 : blk12 ((((w1.alloc (.cells #[.string ⟨#[104, 116, 116, 112]⟩, .string ⟨#[]⟩, .string ⟨#[]⟩, .int .i64 2, .string ⟨#[97]⟩, .int .u32 0, .int .u16 0, .int .u16 0, .int .u16 0, .int .u16 0, .int .u16 0, .int .u16 0, .int .u16 0, .int .u16 0, .int .i64 8080, .bool false, .slice (some ⟨w1.heap.size + 1, 0, none⟩) 1 1, .bool false, .string ⟨#[]⟩, .bool true, .string ⟨#[]⟩] 29)).alloc (.cells #[.string ⟨#[120]⟩] 9)).alloc (.cells #[.string ⟨#[]⟩, .string ⟨#[122]⟩] 9)).alloc (.cells #[.string ⟨#[121]⟩, .string ⟨#[]⟩, .string ⟨#[]⟩, .int .i64 0, .string ⟨#[]⟩, .int .u32 0, .int .u16 0, .int .u16 0, .int .u16 0, .int .u16 0, .int .u16 0, .int .u16 0, .int .u16 0, .int .u16 0, .int .i64 (-1), .bool false, .slice (some ⟨w1.heap.size + 1 + 1, 0, none⟩) 2 2, .bool false, .string ⟨#[]⟩, .bool false, .string ⟨#[]⟩] 29)) w1.heap.size = some (.cells #[.string ⟨#[104, 116, 116, 112]⟩, .string ⟨#[]⟩, .string ⟨#[]⟩, .int .i64 2, .string ⟨#[97]⟩, .int .u32 0, .int .u16 0, .int .u16 0, .int .u16 0, .int .u16 0, .int .u16 0, .int .u16 0, .int .u16 0, .int .u16 0, .int .i64 8080, .bool false, .slice (some ⟨w1.heap.size + 1, 0, none⟩) 1 1, .bool false, .string ⟨#[]⟩, .bool true, .string ⟨#[]⟩] 29 (0, 0)) := by
    rw [heap_old12 _ _ _ (by simp only [World.size_alloc]; omega), heap_old12 _ _ _ (by simp only [World.size_alloc]; omega), heap_old12 _ _ _ (by simp only [World.size_alloc]; omega), heap_here12 _ _ _ rfl]
  have h1 : blk12 ((((w1.alloc (.cells #[.string ⟨#[104, 116, 116, 112]⟩, .string ⟨#[]⟩, .string ⟨#[]⟩, .int .i64 2, .string ⟨#[97]⟩, .int .u32 0, .int .u16 0, .int .u16 0, .int .u16 0, .int .u16 0, .int .u16 0, .int .u16 0, .int .u16 0, .int .u16 0, .int .i64 8080, .bool false, .slice (some ⟨w1.heap.size + 1, 0, none⟩) 1 1, .bool false, .string ⟨#[]⟩, .bool true, .string ⟨#[]⟩] 29)).alloc (.cells #[.string ⟨#[120]⟩] 9)).alloc (.cells #[.string ⟨#[]⟩, .string ⟨#[122]⟩] 9)).alloc (.cells #[.string ⟨#[121]⟩, .string ⟨#[]⟩, .string ⟨#[]⟩, .int .i64 0, .string ⟨#[]⟩, .int .u32 0, .int .u16 0, .int .u16 0, .int .u16 0, .int .u16 0, .int .u16 0, .int .u16 0, .int .u16 0, .int .u16 0, .int .i64 (-1), .bool false, .slice (some ⟨w1.heap.size + 1 + 1, 0, none⟩) 2 2, .bool false, .string ⟨#[]⟩, .bool false, .string ⟨#[]⟩] 29)) (w1.heap.size + 1) = some (.cells #[.string ⟨#[120]⟩] 9 (0, 0)) := by
    rw [heap_old12 _ _ _ (by simp only [World.size_alloc]; omega), heap_old12 _ _ _ (by simp only [World.size_alloc]; omega), heap_here12 _ _ _ (by simp only [World.size_alloc])]
  have h2 : blk12 ((((w1.alloc (.cells #[.string ⟨#[104, 116, 116, 112]⟩, .string ⟨#[]⟩, .string ⟨#[]⟩, .int .i64 2, .string ⟨#[97]⟩, .int .u32 0, .int .u16 0, .int .u16 0, .int .u16 0, .int .u16 0, .int .u16 0, .int .u16 0, .int .u16 0, .int .u16 0, .int .i64 8080, .bool false, .slice (some ⟨w1.heap.size + 1, 0, none⟩) 1 1, .bool false, .string ⟨#[]⟩, .bool true, .string ⟨#[]⟩] 29)).alloc (.cells #[.string ⟨#[120]⟩] 9)).alloc (.cells #[.string ⟨#[]⟩, .string ⟨#[122]⟩] 9)).alloc (.cells #[.string ⟨#[121]⟩, .string ⟨#[]⟩, .string ⟨#[]⟩, .int .i64 0, .string ⟨#[]⟩, .int .u32 0, .int .u16 0, .int .u16 0, .int .u16 0, .int .u16 0, .int .u16 0, .int .u16 0, .int .u16 0, .int .u16 0, .int .i64 (-1), .bool false, .slice (some ⟨w1.heap.size + 1 + 1, 0, none⟩) 2 2, .bool false, .string ⟨#[]⟩, .bool false, .string ⟨#[]⟩] 29)) (w1.heap.size + 1 + 1) = some (.cells #[.string ⟨#[]⟩, .string ⟨#[122]⟩] 9 (0, 0)) := by
    rw [heap_old12 _ _ _ (by simp only [World.size_alloc]; omega), heap_here12 _ _ _ (by simp only [World.size_alloc])]
  have h3 : blk12 ((((w1.alloc (.cells #[.string ⟨#[104, 116, 116, 112]⟩, .string ⟨#[]⟩, .string ⟨#[]⟩, .int .i64 2, .string ⟨#[97]⟩, .int .u32 0, .int .u16 0, .int .u16 0, .int .u16 0, .int .u16 0, .int .u16 0, .int .u16 0, .int .u16 0, .int .u16 0, .int .i64 8080, .bool false, .slice (some ⟨w1.heap.size + 1, 0, none⟩) 1 1, .bool false, .string ⟨#[]⟩, .bool true, .string ⟨#[]⟩] 29)).alloc (.cells #[.string ⟨#[120]⟩] 9)).alloc (.cells #[.string ⟨#[]⟩, .string ⟨#[122]⟩] 9)).alloc (.cells #[.string ⟨#[121]⟩, .string ⟨#[]⟩, .string ⟨#[]⟩, .int .i64 0, .string ⟨#[]⟩, .int .u32 0, .int .u16 0, .int .u16 0, .int .u16 0, .int .u16 0, .int .u16 0, .int .u16 0, .int .u16 0, .int .u16 0, .int .i64 (-1), .bool false, .slice (some ⟨w1.heap.size + 1 + 1, 0, none⟩) 2 2, .bool false, .string ⟨#[]⟩, .bool false, .string ⟨#[]⟩] 29)) (w1.heap.size + 1 + 1 + 1) = some (.cells #[.string ⟨#[121]⟩, .string ⟨#[]⟩, .string ⟨#[]⟩, .int .i64 0, .string ⟨#[]⟩, .int .u32 0, .int .u16 0, .int .u16 0, .int .u16 0, .int .u16 0, .int .u16 0, .int .u16 0, .int .u16 0, .int .u16 0, .int .i64 (-1), .bool false, .slice (some ⟨w1.heap.size + 1 + 1, 0, none⟩) 2 2, .bool false, .string ⟨#[]⟩, .bool false, .string ⟨#[]⟩] 29 (0, 0)) := by
    rw [heap_here12 _ _ _ (by simp only [World.size_alloc])]
  refine ⟨⟨⟨(segs_of h1 (blk_lt12 h1) ?_).below hb, rfl, by omega, (fun e => by cases e), aU_wee⟩, ⟨(segs_of h2 (blk_lt12 h2) ?_).below hb, rfl, by omega, (fun e => by cases e), aV_wee⟩⟩, blk_below12 h0 hb, blk_below12 h3 hb⟩
  · intro i p hp
    match i, hp with
    | 0, hp => cases hp; rfl
  · intro i p hp
    match i, hp with
    | 0, hp => cases hp; rfl
    | 1, hp => cases hp; rfl
theorem aQ_at (w : World) : At12 (w.alloc (.cells #[.string ⟨#[113]⟩] 9)) aQ (some ⟨w.heap.size, 0, none⟩) 1 1 := by
  have h1 : blk12 (w.alloc (.cells #[.string ⟨#[113]⟩] 9)) w.heap.size = some (.cells #[.string ⟨#[113]⟩] 9 (0, 0)) := heap_here12 _ _ _ rfl
  refine ⟨segs_of h1 (blk_lt12 h1) ?_, rfl, by omega, (fun e => by cases e), aQ_wee⟩
  intro i p hp
  match i, hp with
  | 0, hp => cases hp; rfl

set_option maxHeartbeats 4000000 in
set_option maxRecDepth 100000 in
theorem awake12 {w : World} (C : RecC w) : Calls Tryd.prog 8 #[] w (Yes12 w) := by
  have HC := Lib.hid C
  clear C
  go_enter Tryd.func8, Tryd.ntmps8
  go_wp2_with (go_at_call 16; (with_reducible refine (HC.out.new _ _ (Below.refl _ _) (by decide)).mono ?_); rintro e w1 ⟨rfl, hb⟩; have HB := Lib.hid hb; clear hb; have HX := Lib.hid (awk12_all w1); (have HY : Hid (Below w.heap.size w ((((w1.alloc (.cells #[.string ⟨#[104, 116, 116, 112]⟩, .string ⟨#[]⟩, .string ⟨#[]⟩, .int .i64 2, .string ⟨#[97]⟩, .int .u32 0, .int .u16 0, .int .u16 0, .int .u16 0, .int .u16 0, .int .u16 0, .int .u16 0, .int .u16 0, .int .u16 0, .int .i64 8080, .bool false, .slice (some ⟨w1.heap.size + 1, 0, none⟩) 1 1, .bool false, .string ⟨#[]⟩, .bool true, .string ⟨#[]⟩] 29)).alloc (.cells #[.string ⟨#[120]⟩] 9)).alloc (.cells #[.string ⟨#[]⟩, .string ⟨#[122]⟩] 9)).alloc (.cells #[.string ⟨#[121]⟩, .string ⟨#[]⟩, .string ⟨#[]⟩, .int .i64 0, .string ⟨#[]⟩, .int .u32 0, .int .u16 0, .int .u16 0, .int .u16 0, .int .u16 0, .int .u16 0, .int .u16 0, .int .u16 0, .int .u16 0, .int .i64 (-1), .bool false, .slice (some ⟨w1.heap.size + 1 + 1, 0, none⟩) 2 2, .bool false, .string ⟨#[]⟩, .bool false, .string ⟨#[]⟩] 29))) := bn12 HB.out (bn12 (bn12 (bn12 (bel12 _ _) (bel12 _ _)) (bel12 _ _)) (bel12 _ _))); have HBc := Lib.hid (Below.refl (((((w1.alloc (.cells #[.string ⟨#[104, 116, 116, 112]⟩, .string ⟨#[]⟩, .string ⟨#[]⟩, .int .i64 2, .string ⟨#[97]⟩, .int .u32 0, .int .u16 0, .int .u16 0, .int .u16 0, .int .u16 0, .int .u16 0, .int .u16 0, .int .u16 0, .int .u16 0, .int .i64 8080, .bool false, .slice (some ⟨w1.heap.size + 1, 0, none⟩) 1 1, .bool false, .string ⟨#[]⟩, .bool true, .string ⟨#[]⟩] 29)).alloc (.cells #[.string ⟨#[120]⟩] 9)).alloc (.cells #[.string ⟨#[]⟩, .string ⟨#[122]⟩] 9)).alloc (.cells #[.string ⟨#[121]⟩, .string ⟨#[]⟩, .string ⟨#[]⟩, .int .i64 0, .string ⟨#[]⟩, .int .u32 0, .int .u16 0, .int .u16 0, .int .u16 0, .int .u16 0, .int .u16 0, .int .u16 0, .int .u16 0, .int .u16 0, .int .i64 (-1), .bool false, .slice (some ⟨w1.heap.size + 1 + 1, 0, none⟩) 2 2, .bool false, .string ⟨#[]⟩, .bool false, .string ⟨#[]⟩] 29))).heap.size ((((w1.alloc (.cells #[.string ⟨#[104, 116, 116, 112]⟩, .string ⟨#[]⟩, .string ⟨#[]⟩, .int .i64 2, .string ⟨#[97]⟩, .int .u32 0, .int .u16 0, .int .u16 0, .int .u16 0, .int .u16 0, .int .u16 0, .int .u16 0, .int .u16 0, .int .u16 0, .int .i64 8080, .bool false, .slice (some ⟨w1.heap.size + 1, 0, none⟩) 1 1, .bool false, .string ⟨#[]⟩, .bool true, .string ⟨#[]⟩] 29)).alloc (.cells #[.string ⟨#[120]⟩] 9)).alloc (.cells #[.string ⟨#[]⟩, .string ⟨#[122]⟩] 9)).alloc (.cells #[.string ⟨#[121]⟩, .string ⟨#[]⟩, .string ⟨#[]⟩, .int .i64 0, .string ⟨#[]⟩, .int .u32 0, .int .u16 0, .int .u16 0, .int .u16 0, .int .u16 0, .int .u16 0, .int .u16 0, .int .u16 0, .int .u16 0, .int .i64 (-1), .bool false, .slice (some ⟨w1.heap.size + 1 + 1, 0, none⟩) 2 2, .bool false, .string ⟨#[]⟩, .bool false, .string ⟨#[]⟩] 29))))
  refine (ctext12 HC.out aU_bare _ (bn12 HY.out HBc.out) (HX.out _ HBc.out).1.1).mono ?_
  rintro e w2 ⟨rfl, hb⟩; have HBc := Lib.hid (bn12 HBc.out hb); obtain ⟨_, s0, t0⟩ := HX.out _ HBc.out; clear hb
  go_wp2_with fail
  refine (ctext12 HC.out aU_full _ (bn12 HY.out HBc.out) (HX.out _ HBc.out).1.1).mono ?_
  rintro e w3 ⟨rfl, hb⟩; have HBc := Lib.hid (bn12 HBc.out hb); obtain ⟨_, s0, t0⟩ := HX.out _ HBc.out; clear hb
  go_wp2_with fail
  refine (ctext12 HC.out aV_bare _ (bn12 HY.out HBc.out) (HX.out _ HBc.out).1.2).mono ?_
  rintro e w4 ⟨rfl, hb⟩; have HBc := Lib.hid (bn12 HBc.out hb); obtain ⟨_, s0, t0⟩ := HX.out _ HBc.out; clear hb
  go_wp2_with fail
  refine (csame12 HC.out aU_self _ (bn12 HY.out HBc.out) (HX.out _ HBc.out).1.1 (HX.out _ HBc.out).1.1).mono ?_
  rintro e w5 ⟨rfl, hb⟩; have HBc := Lib.hid (bn12 HBc.out hb); obtain ⟨_, s0, t0⟩ := HX.out _ HBc.out; clear hb
  go_wp2_with fail
  refine (csame12 HC.out aUV _ (bn12 HY.out HBc.out) (HX.out _ HBc.out).1.1 (HX.out _ HBc.out).1.2).mono ?_
  rintro e w6 ⟨rfl, hb⟩; have HBc := Lib.hid (bn12 HBc.out hb); obtain ⟨_, s0, t0⟩ := HX.out _ HBc.out; clear hb
  go_wp2_with fail
  refine (cpath12 HC.out aQ_path _ (bn12 (bn12 HY.out HBc.out) (bel12 _ _)) (aQ_at _)).mono ?_
  rintro e w7 ⟨rfl, hb⟩; have HBc := Lib.hid (bn12 (bn12 HBc.out (bel12 _ _)) hb); clear hb
  go_wp2
  go_ret
  exact ⟨rfl, bn12 HY.out HBc.out⟩
end Go.Proofs.YtliklhldlofnjaaDoor

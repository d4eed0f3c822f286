/-
  In this text, one behind the other: HBld, HParts, HAll, QKept, QTally, QSortM, QEncM, QSort.
-/
import Derived.RangeFuncNested
import Derived.RangeFuncBound
import Derived.RangeFuncCalls
import Derived.RangeFuncLeaves
import Derived.RangeFuncBox
import Derived.Maps.AppendAt
import Derived.Shelf.Strings.BuilderK
import Derived.Shelf.Abstract
import Derived.OwnWalkIn
import Derived.TacticsInMore
import Derived.LoopNIn
import Derived.LoopIn
import Derived.Sort.LoopGhostIn
import Derived.Laws.Cover4
import Derived.Shelf.RegionOpenPlain
import Derived.Test.YtfaieldafoeaiaaDoorG4
import Derived.Test.YtfaieldafoeaiaaDoorG2
/-
  strings.Builder inside a round of a range over a function: what is no cells lies as it lay.
-/
namespace Go.Proofs.YtfaieldafoeaiaaDoor
open Go.RowKit Go.Shelf

theorem keeps_below {W W' : World} (h : Below W.heap.size W W') : KeepsOthers W W' := ⟨h.size, fun k _ hk _ => (h.block k (Array.getElem?_eq_some_iff.1 hk).1).trans hk⟩
theorem copyCheck_k (B b : Nat) (bs : List Value) (w : World) (h : Lib.IsBuilder 40 5 B b bs w) :
    Calls Tryd.prog 37 #[.pointer (some ⟨b, 0, none⟩)] w fun e w' => e = .returned (.tuple #[]) ∧ (Lib.BuilderAt 40 5 B b (.pointer (some ⟨b, 0, none⟩)) bs w' ∧ Below B w w' ∧ KeepsOthers w w') := by
  rcases h with h | h
  · refine (copyCheck_fresh b w h.cell0 h.shape h.frozen0).mono ?_
    rintro e w' ⟨rfl, rfl⟩
    exact ⟨rfl, h.used _, (Below.refl B w).setCell (p := ⟨b, 0, none⟩) h.1 _, KeepsOthers.setCell _ _ _⟩
  · refine (copyCheck_used b w h.cell0).mono ?_
    rintro e w' ⟨rfl, rfl⟩
    exact ⟨rfl, h, Below.refl B _, KeepsOthers.refl _⟩
theorem row_cells {w : World} {base : Nat} {e : TypeId} {size : Nat} {v : Value} {n : Nat} {xs : List Value} (h : w.ownsRow base e size v n xs) : ∀ (j : Nat) (o : Obj), v.ownBlock = some j → w.heap[j]? = some o → o.isCells = true := by
  intro j o ej hj
  rcases h.2 with ⟨rfl, _⟩ | ⟨g, cap, cur, rfl, _, hgb, _⟩
  · simp [Value.ownBlock] at ej
  · obtain rfl : g = j := by simpa [Value.ownBlock] using ej
    rw [hgb] at hj; cases hj; rfl

set_option maxHeartbeats 1000000 in
set_option maxRecDepth 100000 in
/-- WriteString. -/
theorem bldk_text (B b : Nat) (l : List UInt8) (s : ByteArray) (w : World) (h : Bld B b l w) (hlen : l.length + s.size ≤ 100000000) (hBw : B ≤ w.heap.size) :
    Calls Tryd.prog 15 #[.pointer (some ⟨b, 0, none⟩), .string s] w fun e w' => e = .returned (.tuple #[.int .i64 s.size, .nilIface]) ∧ (Bld B b (l ++ s.data.toList) w' ∧ Below B w w' ∧ KeepsOthers w w') := by
  obtain ⟨bs, hbs⟩ : ∃ bs, Lib.byteCells l = bs := ⟨_, rfl⟩
  have hlen2 : bs.length + s.size ≤ 100000000 := by rw [← hbs, byteCells_length]; exact hlen
  have HBs : Hid (Lib.byteCells (l ++ s.data.toList) = bs ++ Lib.strCells s) := by
    show Lib.byteCells (l ++ s.data.toList) = bs ++ Lib.strCells s
    rw [byteCells_append, hbs]; rfl
  unfold Bld at h ⊢
  rw [HBs.out]
  rw [hbs] at h
  clear hbs hlen
  obtain ⟨i0, hi, hz0, hz1, hz2⟩ := info_parts bldExtra.infoByte
  go_enter Tryd.func15, Tryd.ntmps15
  go_wp2_with (go_at_call 37; refine (copyCheck_k B b bs _ h).mono ?_)
  rintro e w1 ⟨rfl, h1, hb1, hk1⟩
  obtain ⟨hB, v, hbk, hown, hne⟩ := h1
  have c0 : w1.cell? ⟨b, 0, none⟩ = some (.pointer (some ⟨b, 0, none⟩)) := by rw [Lib.cell_of_heap hbk]; rfl
  have c1 : w1.cell? ⟨b, 1, none⟩ = some v := by rw [Lib.cell_of_heap hbk]; rfl
  go_wp2_with (at_builtin; refine Lib.wpList_append_own_string _ rfl _ _ 38 9 rfl B 5 i0 Tryd.underlying38 Tryd.underlying9 hi hz0 hz1 hz2 _ _ _ rfl hown s rfl ?c3 ?c4 ?c5 ?_)
  case c3 => unfold maxLen; omega
  case c4 => omega
  case c5 => have := hb1.size; omega
  intro v' w2 hown' hgrow _
  have hlt : b < w1.heap.size := by
    rcases Nat.lt_or_ge b w1.heap.size with h' | h'
    · exact h'
    · simp [Array.getElem?_eq_none h'] at hbk
  have hb2 : w2.heap[b]? = some (.cells #[.pointer (some ⟨b, 0, none⟩), v] 40 (0, 0)) := by
    rw [hgrow.block b hlt (fun e => hne e.symm)]
    exact hbk
  have d0 : w2.cell? ⟨b, 0, none⟩ = some (.pointer (some ⟨b, 0, none⟩)) := by rw [Lib.cell_of_heap hb2]; rfl
  have d1 : w2.cell? ⟨b, 1, none⟩ = some v := by rw [Lib.cell_of_heap hb2]; rfl
  have f1 : w2.frozen? ⟨b, 1, none⟩ = false := Lib.frozen_of_heap hb2 1
  have HK := Lib.hid (hk1.trans (KeepsOthers.of_grownBy hgrow (row_cells hown)))
  obtain ⟨ao, n', cap, rfl⟩ : ∃ ao n' cap, v' = .slice ao n' cap := by
    rcases hown'.2 with ⟨hv, _⟩ | ⟨g, cap, cur, hv, _⟩
    · exact ⟨_, _, _, hv⟩
    · exact ⟨_, _, _, hv⟩
  go_wp2
  go_ret2
  refine ⟨rfl, .inr ?_, ?_, HK.out.trans (KeepsOthers.setCell _ _ _)⟩
  · exact Lib.BuilderAt.put (T := 40) (e := 5) hB hb2 (bs' := bs ++ Lib.strCells s) (by simpa [Lib.strCells_length] using hown') (by decide)
  · exact (hb1.grown hgrow (by have := hb1.size; omega) (fun k hk => (hown.lt k hk).1)).setCell (p := ⟨b, 1, none⟩) hB _

set_option maxHeartbeats 1000000 in
set_option maxRecDepth 100000 in
/-- WriteByte. -/
theorem bldk_byte (B b : Nat) (l : List UInt8) (c : UInt8) (x : Int) (w : World) (h : Bld B b l w) (hx : x = (c.toNat : Int)) (hlen : l.length + 1 ≤ 100000000) (hBw : B ≤ w.heap.size) :
    Calls Tryd.prog 14 #[.pointer (some ⟨b, 0, none⟩), .int .u8 x] w fun e w' => e = .returned .nilIface ∧ (Bld B b (l ++ [c]) w' ∧ Below B w w' ∧ KeepsOthers w w') := by
  obtain ⟨bs, hbs⟩ : ∃ bs, Lib.byteCells l = bs := ⟨_, rfl⟩
  have hlen2 : bs.length + 1 ≤ 100000000 := by rw [← hbs, byteCells_length]; exact hlen
  have HBs : Hid (Lib.byteCells (l ++ [c]) = bs ++ [.int .u8 x]) := by
    show Lib.byteCells (l ++ [c]) = bs ++ [.int .u8 x]
    rw [byteCells_append, hbs, hx]; rfl
  unfold Bld at h ⊢
  rw [HBs.out]
  rw [hbs] at h
  clear hbs hlen hx
  obtain ⟨i0, hi, hz0, hz1, hz2⟩ := info_parts bldExtra.infoByte
  go_enter Tryd.func14, Tryd.ntmps14
  go_wp2_with (go_at_call 37; refine (copyCheck_k B b bs _ h).mono ?_)
  rintro e w1 ⟨rfl, h1, hb1, hk1⟩
  obtain ⟨hB, v, hbk, hown, hne⟩ := h1
  have c0 : w1.cell? ⟨b, 0, none⟩ = some (.pointer (some ⟨b, 0, none⟩)) := by rw [Lib.cell_of_heap hbk]; rfl
  have c1 : w1.cell? ⟨b, 1, none⟩ = some v := by rw [Lib.cell_of_heap hbk]; rfl
  go_wp2_with (at_builtin; refine wpList_append_own _ rfl _ _ 38 rfl B 5 i0 (.int .u8 0) 1 1 Tryd.underlying38 hi hz0 hz1 hz2 rfl (by decide) _ _ _ rfl (hown.alloc _) ⟨w1.heap.size, 0, none⟩ 1 1 [.int .u8 x] rfl rfl ?c1 ?c2 ?c3 ?c4 ?c5 ?_)
  case c1 =>
    intro j u hj
    match j, hj with
    | 0, hj => simp at hj; subst hj; simp [Addr.add]
  case c2 => intro u hu; simp at hu; subst hu; rfl
  case c3 => unfold maxLen; omega
  case c4 => omega
  case c5 => have := hb1.size; simp; omega
  intro v' w2 hown' hgrow _
  have hlt : b < w1.heap.size := by
    rcases Nat.lt_or_ge b w1.heap.size with h' | h'
    · exact h'
    · simp [Array.getElem?_eq_none h'] at hbk
  have hb2 : w2.heap[b]? = some (.cells #[.pointer (some ⟨b, 0, none⟩), v] 40 (0, 0)) := by
    rw [hgrow.block b (by simp; omega) (fun e => hne e.symm), Lib.alloc_old w1 _ b hlt]
    exact hbk
  have d0 : w2.cell? ⟨b, 0, none⟩ = some (.pointer (some ⟨b, 0, none⟩)) := by rw [Lib.cell_of_heap hb2]; rfl
  have d1 : w2.cell? ⟨b, 1, none⟩ = some v := by rw [Lib.cell_of_heap hb2]; rfl
  have f1 : w2.frozen? ⟨b, 1, none⟩ = false := Lib.frozen_of_heap hb2 1
  have HK := Lib.hid ((hk1.trans (KeepsOthers.alloc _ _)).trans (KeepsOthers.of_grownBy hgrow (row_cells (hown.alloc _))))
  obtain ⟨g, cap, rfl⟩ : ∃ g cap, v' = .slice (some ⟨g, 0, none⟩) (bs.length + 1) cap := by
    rcases hown'.2 with ⟨_, h0⟩ | ⟨g, cap, cur, hv, _⟩
    · omega
    · exact ⟨g, cap, hv⟩
  go_wp2
  go_ret
  refine ⟨rfl, .inr ?_, ?_, HK.out.trans (KeepsOthers.setCell _ _ _)⟩
  · exact Lib.BuilderAt.put (T := 40) (e := 5) hB hb2 (bs' := bs ++ [.int .u8 x]) (by simpa using hown') (by decide)
  · exact ((hb1.alloc (by have := hb1.size; omega) _).grown hgrow (by have := hb1.size; simp; omega) (fun k hk => (hown.lt k hk).1)).setCell (p := ⟨b, 1, none⟩) hB _

/-- String; a block that is no cells lies as it lay. -/
theorem bldk_done (B b : Nat) (l : List UInt8) (w : World) (h : Bld B b l w) (hBw : B ≤ w.heap.size) :
    Calls Tryd.prog 17 #[.pointer (some ⟨b, 0, none⟩)] w fun e w' => e = .returned (.string ⟨l.toArray⟩) ∧ Below B w w' ∧ (∀ (k : Nat) (o : Obj), w.heap[k]? = some o → o.isCells = false → w'.heap[k]? = some o) := by
  have hF : Lib.IsBuilderF 40 5 B b (Lib.byteCells l) w := h.elim (fun x => .inl (Lib.BuilderAtF.of x)) (fun x => .inr (Lib.BuilderAtF.of x))
  refine (Any.Builder_String_any_k lays169 bldExtra B b l w hF hBw).mono ?_
  rintro e w' ⟨rfl, _, hb, hk⟩
  refine ⟨rfl, hb, fun k o ho hc => hk k o ho ?_ ?_⟩
  · intro e
    cases e
    have : ∀ p, Lib.BuilderAt 40 5 B b p (Lib.byteCells l) w → False := by
      rintro p ⟨_, v, hbk, _⟩
      rw [hbk] at ho
      cases ho
      cases hc
    exact h.elim (this _) (this _)
  · rintro c fz rfl
    cases hc
/-! What is said of a builder, of a chain, speaks of cells alone. -/
theorem owns_own {W W' : World} {row : Option Nat} {base : Nat} {e : TypeId} {size : Nat} {v : Value} {n : Nat} {xs : List Value} (h : W.ownsRow base e size v n xs) (hg : W.grownBy W' row) (hr : ∀ r, row = some r → ∃ o : Obj, W.heap[r]? = some o ∧ o.isCells = false) : W'.ownsRow base e size v n xs := by
  refine h.kept hg ?_
  rcases h.2 with ⟨rfl, _⟩ | ⟨g, cap, cur, rfl, _, hgb, _⟩
  · exact .inl rfl
  · refine .inr fun e' => ?_
    obtain ⟨o, ho, hc⟩ := hr g (by simpa [Value.ownBlock] using e'.symm)
    rw [hgb] at ho; cases ho; cases hc
theorem builderAt_own {T e : TypeId} {B b : Nat} {p : Value} {bs : List Value} {W W' : World} {row : Option Nat} (h : Lib.BuilderAt T e B b p bs W) (hg : W.grownBy W' row) (hr : ∀ r, row = some r → ∃ o : Obj, W.heap[r]? = some o ∧ o.isCells = false) : Lib.BuilderAt T e B b p bs W' := by
  obtain ⟨hB, v, hbk, hown, hne⟩ := h
  exact ⟨hB, v, (grownBy_keeps_cells hg hr hbk rfl).trans hbk, owns_own hown hg hr, hne⟩
theorem bld_own {B b : Nat} {l : List UInt8} {W W' : World} {row : Option Nat} (h : Bld B b l W) (hg : W.grownBy W' row) (hr : ∀ r, row = some r → ∃ o : Obj, W.heap[r]? = some o ∧ o.isCells = false) : Bld B b l W' :=
  h.elim (fun x => .inl (builderAt_own x hg hr)) (fun x => .inr (builderAt_own x hg hr))
theorem boxed_keep {B : Nat} {t : TypeId} {v : Value} {W W' : World} {row : Option Nat} (h : Boxed W B t v) (hg : W.grownBy W' row) (hr : ∀ r, row = some r → ∃ o : Obj, W.heap[r]? = some o ∧ o.isCells = false) : Boxed W' B t v :=
  (grownBy_keeps_cells hg hr h rfl).trans h
theorem chain_own {W W' : World} {row : Option Nat} (hg : W.grownBy W' row) (hr : ∀ r, row = some r → ∃ o : Obj, W.heap[r]? = some o ∧ o.isCells = false) : ∀ {cs : List ByteArray} {o : Option Int} {v : Value}, Chain W cs o v → Chain W' cs o v
  | [], some _, _, h => h
  | [], none, _, h => h
  | _ :: _, _, _, ⟨b, v', e, hl, h0, h1, h2⟩ => ⟨b, v', e, Nat.lt_of_lt_of_le hl hg.size, cell_kept h0 hg hr, cell_kept h1 hg hr, chain_own hg hr h2⟩
end Go.Proofs.YtfaieldafoeaiaaDoor

/-
  parts of package label: the function that goes through a name's parts.
-/
namespace Go.Proofs.YtfaieldafoeaiaaDoor
open Go.RowKit Go.Shelf

attribute [local go_sem] Oper.semAt_some

/-- A part: its turn, the slice, what it reads as. -/
structure PartI where
  turn : Nat
  addr : Option Addr
  len : Nat
  cap : Nat
  list : List Int
/-- A part that lies in w. -/
abbrev PartAt (w : World) : Type := { p : PartI // Runes w p.addr p.list ∧ Fit p.list ∧ p.list.length = p.len ∧ p.len ≤ p.cap ∧ p.turn ≤ 1400 }
/-- Their turns are 0, 1, 2 .. -/
def Turns {w : World} (xs : List (PartAt w)) : Prop := xs.map (·.1.turn) = List.range xs.length
theorem Turns.snoc {w : World} {xs : List (PartAt w)} {x : PartAt w} (h : Turns xs) (hx : x.1.turn = xs.length) : Turns (xs ++ [x]) := by
  unfold Turns at h ⊢
  rw [List.map_append, h, List.length_append, List.length_singleton, List.range_succ]
  simp [hx]

set_option maxHeartbeats 1000000 in
set_option maxRecDepth 100000 in
theorem parts_any (A : Option Addr) (n cap : Nat) (w : World) :
    Calls Tryd.prog 13 #[.slice A n cap] w fun e w' => e = .returned (.func (.func 35) #[] #[.pointer (some ⟨w.heap.size, 0, none⟩)]) ∧ w.alloc (.cells #[.slice A n cap] 22) = w' := by
  have hmf : ∀ (fn : Fn) (first cap : Array Value) (w : World), (Instr.makeFunc fn first cap).run Tryd.prog w = .ok (.func fn first cap) w := fun _ _ _ _ => rfl
  go_enter Tryd.func13, Tryd.ntmps13
  go_wp2
  go_ret
  exact ⟨rfl, rfl⟩

theorem dot_split {r : List Int} (h : (46 : Int) ∈ r) : ∃ a b, r = a ++ 46 :: b ∧ (46 : Int) ∉ a := by
  induction r with
  | nil => cases h
  | cons c r ih =>
    by_cases hc : c = 46
    · exact ⟨[], r, by rw [hc]; rfl, by simp⟩
    · obtain ⟨a, b, rfl, ha⟩ := ih (by rcases List.mem_cons.1 h with h | h; exact absurd h.symm hc; exact h)
      exact ⟨c :: a, b, rfl, by rw [List.mem_cons, not_or]; exact ⟨fun e => hc e.symm, ha⟩⟩

/-- What the iterator's loop holds. -/
def PartsRel (w0 : World) (l : List Int) (J : List (PartAt w0) → World → Prop) (v3 v4 : Value) (wr : World) : Prop :=
  ∃ (pre : List (PartAt w0)) (A : Option Addr) (r : List Int) (cap : Nat), v3 = .slice A r.length cap ∧ v4 = .int .i64 (pre.length : Int) ∧ pre.length + r.length ≤ l.length ∧ Runes w0 A r ∧ Fit r ∧ r.length ≤ cap ∧
    pre.map (·.1.list) ++ partsOf r = partsOf l ∧ Turns pre ∧ Below w0.heap.size w0 wr ∧ J pre wr

set_option maxHeartbeats 2000000 in
set_option maxRecDepth 100000 in
theorem parts1_in (n : Nat) (hn : 1 ≤ n) (lp Bn : Nat) (w0 : World) (A0 : Option Addr) (l : List Int) (cap0 : Nat) (J Jx : List (PartAt w0) → World → Prop) (W : World)
    (hY : ∀ pre x W1, J pre W1 → pre.length < l.length + 1 → YieldAt Fence.wide (n - 1) Tryd.prog lp #[.int .i64 x.1.turn, .slice x.1.addr x.1.len x.1.cap] W1 fun e W' =>
      (e = .returned (.bool true) ∧ J (pre ++ [x]) W' ∧ Below w0.heap.size W1 W') ∨ (e = .returned (.bool false) ∧ Jx (pre ++ [x]) W'))
    (hb : Below w0.heap.size w0 W) (hBn : W.cell? ⟨Bn, 0, none⟩ = some (.slice A0 l.length cap0)) (hr : Runes w0 A0 l) (hf : Fit l) (hcap : l.length ≤ cap0) (h0 : J [] W) :
    CallsIn Fence.wide n Tryd.prog 35 #[.func (.yield lp) #[] #[], .pointer (some ⟨Bn, 0, none⟩)] W fun e W' => (∃ v, e = .returned v) ∧
      ((∃ ys, (Turns ys ∧ ys.map (·.1.list) = partsOf l) ∧ J ys W') ∨ (∃ pre, (Turns pre ∧ pre.map (·.1.list) <+: partsOf l) ∧ Jx pre W')) := by
  have HY := Lib.hid hY
  have HR := Lib.hid hr
  have HF := Lib.hid hf
  have H0 := Lib.hid h0
  have hl14 := hf.len
  clear hY hr hf h0
  refine callsIn_of_wp Tryd.func35 rfl trivial ?_ rfl
  simp only [Tryd.ntmps35, List.size_toArray, List.length_cons, List.length_nil, Nat.reduceAdd, Nat.reduceSub, Array.replicate_succ, Array.replicate_zero, List.push_toArray, List.append_toArray, List.nil_append, List.cons_append]
  gi_wp2
  gi_loopw [3, 4] (fun v3 v4 wr => PartsRel w0 l J v3 v4 wr) (fun _ v4 _ => l.length + 1 - (intOf v4).toNat)
  case atStart => exact ⟨[], A0, l, cap0, rfl, rfl, by simp, HR.out, HF.out, hcap, rfl, rfl, hb, H0.out⟩
  case round =>
    obtain ⟨pre, A, r, cap, rfl, rfl, hlen, hru, hfi, hrc, hpa, htu, hbr, hJs⟩ := hrel
    have HRu := Lib.hid hru
    have HFi := Lib.hid hfi
    have HPa := Lib.hid hpa
    have HTu := Lib.hid htu
    have HJs := Lib.hid hJs
    clear hru hfi hpa htu hJs
    by_cases hd : (46 : Int) ∈ r
    · obtain ⟨a, b, rfl, ha⟩ := dot_split hd
      have HP1 := Lib.hid (show partsOf (a ++ 46 :: b) = a :: partsOf b by rw [partsOf_append, partsOf_none ha]; rfl)
      have hrl : (a ++ 46 :: b).length = a.length + b.length + 1 := by rw [List.length_append, List.length_cons]; omega
      have HI := Lib.hid (indexDot_any A (a ++ 46 :: b) cap wr (HRu.out.below hbr) (by omega))
      rw [dotAt_here (k := a.length) (by rw [hrl]; omega) (by simp) (fun c hc e => ha (by rw [List.take_left] at hc; rw [← e]; exact hc))] at HI
      obtain ⟨bk, off, rfl, _, _⟩ := HRu.out 0 (a ++ 46 :: b)[0] (List.getElem?_eq_getElem (by rw [hrl]; omega))
      have hRa : Runes w0 (some ⟨bk, off, none⟩) a := fun i c hc => HRu.out i c (by rw [List.getElem?_append_left (List.getElem?_eq_some_iff.1 hc).1]; exact hc)
      have HRb : Hid (Runes w0 (some ⟨bk, off + (a.length + 1), none⟩) b) := by
        intro i c hc
        obtain ⟨b', off', e, h1, h2⟩ := HRu.out (a.length + 1 + i) c (by rw [List.getElem?_append_right (by omega), show a.length + 1 + i - a.length = i + 1 by omega, List.getElem?_cons_succ]; exact hc)
        cases e
        exact ⟨_, _, rfl, h1, by rw [Nat.add_assoc]; exact h2⟩
      have hFa : Fit a := HFi.out.sub (fun c hc => List.mem_append_left _ hc) (by omega)
      have HFb := Lib.hid (show Fit b from HFi.out.sub (fun c hc => List.mem_append_right _ (List.mem_cons_of_mem _ hc)) (by omega))
      obtain ⟨x, hx⟩ : ∃ x : PartAt w0, x.1 = ⟨pre.length, some ⟨bk, off, none⟩, a.length, cap, a⟩ := ⟨⟨_, hRa, hFa, rfl, by show a.length ≤ cap; omega, by show pre.length ≤ 1400; omega⟩, rfl⟩
      obtain ⟨fn, tmps, assign, body, hy, hR⟩ := HY.out pre x wr HJs.out (by omega)
      rw [hx] at hy
      dsimp only at hy
      have HX := Lib.hid hx
      clear hx
      have HRL := Lib.hid hrl
      obtain ⟨m, hm⟩ : ∃ m, (a ++ 46 :: b).length = m := ⟨_, rfl⟩
      rw [hm] at hrl hlen hrc HI HRL ⊢
      have hm2 : a.length + 1 ≤ m := by omega
      clear hd ha hRa hFa hm hrl
      gi_wp2_with (refine ⟨trivial, ?_⟩; gi_at_call 36; refine (callsIn_wide.2 HI.out).mono ?_; rintro e w' ⟨rfl, rfl⟩)
      refine hR.mono ?_
      clear hR hy
      rintro e W3 (⟨rfl, hJ3, hk3⟩ | ⟨rfl, hJx3⟩)
      · have HJ3 := Lib.hid hJ3
        have HK3 := Lib.hid hk3
        clear hJ3 hk3
        by_cases hcp : cap = a.length + 1
        · subst hcp
          gi_wp2
          go_roundw
          case rel =>
            have hb0 : b = [] := List.eq_nil_of_length_eq_zero (by have := HRL.out; omega)
            subst hb0
            exact ⟨pre ++ [x], _, [], 0, rfl, by rw [List.length_append]; rfl, by rw [List.length_append]; simp; omega, Runes.nil_, HFb.out, Nat.le_refl _, by rw [List.map_append, List.map_singleton, HX.out, ← HPa.out, HP1.out]; simp, HTu.out.snoc (by rw [HX.out]), hbr.trans HK3.out, HJ3.out⟩
          case measure => simp [intOf]; omega
        · gi_wp2
          go_roundw
          case rel =>
            have hml : m - (a.length + 1) = b.length := by have := HRL.out; omega
            rw [hml]
            exact ⟨pre ++ [x], _, b, _, rfl, by rw [List.length_append]; rfl, by have := HRL.out; rw [List.length_append, List.length_singleton]; omega, HRb.out, HFb.out, by have := HRL.out; omega, by rw [List.map_append, List.map_singleton, HX.out, ← HPa.out, HP1.out]; simp, HTu.out.snoc (by rw [HX.out]), hbr.trans HK3.out, HJ3.out⟩
          case measure => simp [intOf]; omega
      · gi_wp2
        refine bodyPost_ret (results_none rfl _ _ _) rfl ?_
        exact ⟨⟨_, rfl⟩, .inr ⟨_, ⟨HTu.out.snoc (by rw [HX.out]), by rw [List.map_append, ← HPa.out, HP1.out, List.map_singleton, HX.out]; exact ⟨partsOf b, by simp⟩⟩, hJx3⟩⟩
    · have HI := Lib.hid (indexDot_any A r cap wr (HRu.out.below hbr) (by omega))
      rw [dotAt_none (fun c hc e => hd (by rw [← e]; exact hc))] at HI
      have HP1 := Lib.hid (partsOf_none hd)
      clear hd
      obtain ⟨x, hx⟩ : ∃ x : PartAt w0, x.1 = ⟨pre.length, A, r.length, cap, r⟩ := ⟨⟨_, HRu.out, HFi.out, rfl, hrc, by show pre.length ≤ 1400; omega⟩, rfl⟩
      obtain ⟨fn, tmps, assign, body, hy, hR⟩ := HY.out pre x wr HJs.out (by omega)
      rw [hx] at hy
      dsimp only at hy
      have HX := Lib.hid hx
      clear hx
      gi_wp2_with (refine ⟨trivial, ?_⟩; gi_at_call 36; refine (callsIn_wide.2 HI.out).mono ?_; rintro e w' ⟨rfl, rfl⟩)
      refine hR.mono ?_
      clear hR hy
      rintro e W3 (⟨rfl, hJ3, hk3⟩ | ⟨rfl, hJx3⟩)
      · gi_wp2
        refine bodyPost_ret (results_none rfl _ _ _) rfl ?_
        exact ⟨⟨_, rfl⟩, .inl ⟨_, ⟨HTu.out.snoc (by rw [HX.out]), by rw [List.map_append, ← HPa.out, HP1.out, List.map_singleton, HX.out]⟩, hJ3⟩⟩
      · gi_wp2
        refine bodyPost_ret (results_none rfl _ _ _) rfl ?_
        exact ⟨⟨_, rfl⟩, .inr ⟨_, ⟨HTu.out.snoc (by rw [HX.out]), by rw [List.map_append, ← HPa.out, HP1.out, List.map_singleton, HX.out]; exact List.prefix_refl _⟩, hJx3⟩⟩

theorem parts_stops (n : Nat) (hn : 1 ≤ n) (Bn : Nat) (w0 : World) (A0 : Option Addr) (l : List Int) (cap0 : Nat) (w : World) (hb : Below w0.heap.size w0 w) (hBn : Bn < w.heap.size)
    (hc : w.cell? ⟨Bn, 0, none⟩ = some (.slice A0 l.length cap0)) (hr : Runes w0 A0 l) (hf : Fit l) (hcap : l.length ≤ cap0) :
    SeqStopsK Fence.wide n Tryd.prog 35 #[.pointer (some ⟨Bn, 0, none⟩)] (fun x : PartAt w0 => #[Value.int .i64 (x.1.turn : Int), Value.slice x.1.addr x.1.len x.1.cap]) (Below w0.heap.size) (fun ys => Turns ys ∧ ys.map (·.1.list) = partsOf l) (fun pre => Turns pre ∧ pre.map (·.1.list) <+: partsOf l) (l.length + 1) w := fun lp J Jx W hW _ _ hY h0 =>
  parts1_in n hn lp Bn w0 A0 l cap0 J Jx W hY (hb.trans (hW.mono hb.size)) ((hW.cell (p := ⟨Bn, 0, none⟩) hBn).trans hc) hr hf hcap h0
end Go.Proofs.YtfaieldafoeaiaaDoor

/-
  All of package label does as the document says.
-/
namespace Go.Proofs.YtfaieldafoeaiaaDoor
open Go.RowKit Go.Shelf

attribute [local go_sem] Oper.semAt_some

theorem wrap6_p (cs : List ByteArray) (n : Int) (u : TypeId) (x : Value) (w : World) (hch : Chain w cs (some n) (.iface u x)) :
    Calls Tryd.prog 12 #[.iface u x] w fun e w' => e = .returned (.iface 101 (.pointer (some ⟨w.heap.size, 0, none⟩))) ∧ ∃ cs, Chain w' cs (some n) (.iface 101 (.pointer (some ⟨w.heap.size, 0, none⟩))) ∧ Below w.heap.size w w' := by
  have HC := Lib.hid hch
  clear hch
  go_enter Tryd.func12, Tryd.ntmps12
  go_wp2_with (go_at_call 34; refine (wrap_held _ _ _ _).mono ?_; rintro e w' ⟨rfl, rfl⟩)
  go_ret
  exact ⟨rfl, _, HC.out.lay _, (Below.refl _ _).alloc (Nat.le_refl _) _⟩

/-- The two results' boxes, as they are laid. -/
def Two (s : Nat) (W : World) : Prop := Boxed W s 9 (.string ⟨#[]⟩) ∧ Boxed W (s + 1) 25 .nilIface
theorem Two.new (w : World) : Two w.heap.size ((w.alloc (.cells #[.string ⟨#[]⟩] 9)).alloc (.cells #[.nilIface] 25)) := by
  have h := Boxed.new (w.alloc (.cells #[.string ⟨#[]⟩] 9)) 25 .nilIface
  rw [World.size_alloc] at h
  exact ⟨(Boxed.new w 9 (.string ⟨#[]⟩)).alloc _, h⟩
theorem Two.below {s n : Nat} {W W' : World} (h : Two s W) (hb : Below n W W') (hn : s + 1 < n) : Two s W' := ⟨(hb.block s (by omega)).trans h.1, (hb.block (s + 1) hn).trans h.2⟩
theorem Two.cells {s : Nat} {W : World} (h : Two s W) : (W.cell? ⟨s, 0, none⟩ = some (.string ⟨#[]⟩) ∧ W.frozen? ⟨s, 0, none⟩ = false) ∧ W.cell? ⟨s + 1, 0, none⟩ = some .nilIface ∧ W.frozen? ⟨s + 1, 0, none⟩ = false := ⟨⟨h.1.cell, h.1.frozen⟩, h.2.cell, h.2.frozen⟩

theorem boxed_one {W : World} {B : Nat} {t : TypeId} {v : Value} (h : Boxed W B t v) : W.cell? ⟨B, 1, none⟩ = none := by simp [World.cell?, show W.heap[B]? = _ from h]
/-- A box's cell is none of a chain's. -/
theorem chain_box {W : World} {B : Nat} {t : TypeId} {v : Value} (hB : Boxed W B t v) (u : Value) : ∀ {cs : List ByteArray} {o : Option Int} {x : Value}, Chain W cs o x → Chain (W.setCell ⟨B, 0, none⟩ u) cs o x
  | [], some _, _, h => h
  | [], none, _, h => h
  | _ :: _, _, _, ⟨b, v', e, hl, h0, h1, h2⟩ => by
    have hne : b ≠ B := by
      rintro rfl
      rw [boxed_one hB] at h1
      cases h1
    exact ⟨b, v', e, by simpa [World.setCell] using hl, (World.cell?_setCell_other _ _ _ _ (by intro e; cases e; exact hne rfl)).trans h0, (World.cell?_setCell_other _ _ _ _ (by intro e; cases e)).trans h1, chain_box hB u h2⟩
theorem boxed_other {W : World} {B C : Nat} {t : TypeId} {v : Value} (h : Boxed W B t v) (hne : B ≠ C) (u : Value) : Boxed (W.setCell ⟨C, 0, none⟩ u) B t v := (Below.heap_setCell _ _ _ B hne).trans h
/-- Both results' boxes, once they are written. -/
theorem Two.put {s : Nat} {W : World} (h : Two s W) (a b : Value) : Boxed ((W.setCell ⟨s, 0, none⟩ a).setCell ⟨s + 1, 0, none⟩ b) s 9 a ∧ Boxed ((W.setCell ⟨s, 0, none⟩ a).setCell ⟨s + 1, 0, none⟩ b) (s + 1) 25 b :=
  ⟨boxed_other (h.1.set a) (by omega) _, (boxed_other h.2 (by omega) _).set b⟩
theorem Two.chain {s : Nat} {W : World} (h : Two s W) (a b : Value) {cs : List ByteArray} {o : Option Int} {x : Value} (hc : Chain W cs o x) : Chain ((W.setCell ⟨s, 0, none⟩ a).setCell ⟨s + 1, 0, none⟩ b) cs o x :=
  chain_box (boxed_other h.2 (by omega) _) b (chain_box h.1 a hc)

set_option maxHeartbeats 4000000 in
set_option maxRecDepth 100000 in
theorem all_bad_p (A : Option Addr) (l : List Int) (cap : Nat) (w : World) (hv : Vars w) (hg : ∀ c ∈ l, R32 c) (hr : Runes w A l) (hl : l.length ≤ 1400) (hf : foldL l = none) :
    Calls Tryd.prog 6 #[.slice A l.length cap] w (TextPost 2 [] w) := by
  have HFo : Hid (∀ w1, Below w.heap.size w w1 → Calls Tryd.prog 11 #[.slice A l.length cap] w1 (FoldPost none w1)) := by
    intro w1 hb
    have := fold_p A l cap w1 (hv.below hb) hg (hr.below hb) hl
    rwa [hf] at this
  clear hv hg hr hf
  refine (callsIn_wide (n := 3)).1 ?_
  refine callsIn_of_wp_marks Tryd.func6 rfl trivial ?_ rfl
  simp only [Tryd.ntmps6, List.size_toArray, List.length_cons, List.length_nil, Nat.reduceAdd, Nat.reduceSub, Array.replicate_succ, Array.replicate_zero, List.push_toArray, List.append_toArray, List.nil_append, List.cons_append]
  have hW : Below w.heap.size w ((w.alloc (.cells #[.string ⟨#[]⟩] 9)).alloc (.cells #[.nilIface] 25)) := ((Below.refl _ w).alloc (Nat.le_refl _) _).alloc (by simp) _
  have HW := Lib.hid hW
  clear hW
  gi_wp2_with (first
    | (refine ⟨trivial, ?_⟩; gi_at_call 11; refine (callsIn_wide.2 (HFo.out _ HW.out)).mono ?_; rintro e w1 ⟨cs, u, x, rfl, hch, hb⟩; have HCh := Lib.hid hch; have hz : w.heap.size + 1 < w1.heap.size := (by have := hb.size; simp at this; omega); have HT := Lib.hid ((Two.new w).below hb (by simp)); have HB := Lib.hid (HW.out.trans (hb.mono (by simp; omega))); clear hch hb)
    | (refine ⟨trivial, ?_⟩; gi_at_call 12; refine (callsIn_wide.2 (wrap6_p cs 2 u x _ HCh.out)).mono ?_; rintro e w2 ⟨rfl, cs2, hch, hb⟩; have HCh2 := Lib.hid hch; have HT2 := Lib.hid (HT.out.below hb hz); obtain ⟨⟨hc0, hf0⟩, hc1, hf1⟩ := HT2.out.cells; have HB := Lib.hid (bnext HB.out hb); clear hch hb))
  have hP := HT2.out.put (.string ⟨#[]⟩) (.iface 101 (.pointer (some ⟨w1.heap.size, 0, none⟩)))
  have hd0 := hP.1.cell
  have hd1 := hP.2.cell
  refine ⟨.tuple #[.string ⟨#[]⟩, .iface 101 (.pointer (some ⟨w1.heap.size, 0, none⟩))], ?_, text_two rfl (HT2.out.chain _ _ HCh2.out) ?_⟩
  · simp [results, Tryd.f6, go_sem, hd0, hd1]
  · exact (HB.out.setCell (p := ⟨w.heap.size, 0, none⟩) (Nat.le_refl _) _).setCell (p := ⟨w.heap.size + 1, 0, none⟩) (by simp) _

/-! A name with parts. -/
/-- What the builder holds behind some parts: each told, with a dot ahead but for turn 0. -/
def glue : List Nat → List (List UInt8) → List UInt8
  | t :: ts, x :: xs => (if 0 < t then 46 :: x else x) ++ glue ts xs
  | _, _ => []
def Told6 {w : World} (pre : List (PartAt w)) (bs : List UInt8) : Prop := ∃ xs, mapOne (pre.map (·.1.list)) = some xs ∧ bs = glue (pre.map (·.1.turn)) xs
theorem mapOne_len : ∀ {ps : List (List Int)} {xs : List (List UInt8)}, mapOne ps = some xs → xs.length = ps.length := by
  intro ps
  induction ps with
  | nil => intro xs h; cases h; rfl
  | cons p ps ih =>
    intro xs h
    unfold mapOne at h
    cases hp : lone p with
    | none => rw [hp] at h; cases h
    | some x =>
      cases hq : mapOne ps with
      | none => rw [hp, hq] at h; cases h
      | some ys =>
        rw [hp, hq] at h
        cases h
        simp [ih hq]
theorem glue_snoc : ∀ (ts : List Nat) (xs : List (List UInt8)) (t : Nat) (x : List UInt8), ts.length = xs.length → glue (ts ++ [t]) (xs ++ [x]) = glue ts xs ++ (if 0 < t then 46 :: x else x) := by
  intro ts
  induction ts with
  | nil => intro xs t x h; cases xs with
    | nil => simp [glue]
    | cons y ys => cases h
  | cons s ts ih => intro xs t x h; cases xs with
    | nil => cases h
    | cons y ys => simp only [List.cons_append, glue]; rw [ih ys t x (by simpa using h), List.append_assoc]
theorem Told6.snoc {w : World} {pre : List (PartAt w)} {bs : List UInt8} {x : PartAt w} {y : List UInt8} (h : Told6 pre bs) (hx : lone x.1.list = some y) : Told6 (pre ++ [x]) (bs ++ (if 0 < x.1.turn then 46 :: y else y)) := by
  obtain ⟨xs, h1, rfl⟩ := h
  refine ⟨xs ++ [y], ?_, ?_⟩
  · rw [List.map_append, mapOne_append, h1]
    simp [mapOne, hx]
  · have hl := mapOne_len h1
    rw [List.map_append, List.map_singleton, glue_snoc _ _ _ _ (by rw [hl]; simp)]
theorem mapOne_no {a b : List (List Int)} (h : mapOne a = none) : mapOne (a ++ b) = none := by
  rw [mapOne_append, h]
theorem mapOne_last {a : List (List Int)} {q : List Int} (h : lone q = none) : mapOne (a ++ [q]) = none := by
  rw [mapOne_append]
  cases mapOne a <;> simp [mapOne, h]
theorem glue_range : ∀ (xs : List (List UInt8)) (k : Nat), 0 < k → glue (List.range' k xs.length) xs = (xs.map (fun x => 46 :: x)).flatten := by
  intro xs
  induction xs with
  | nil => intro k _; rfl
  | cons x xs ih =>
    intro k hk
    simp only [List.length_cons, List.range'_succ, glue, List.map_cons, List.flatten_cons]
    rw [if_pos hk, ih (k + 1) (by omega)]
theorem join_flat : ∀ (xs : List (List UInt8)) (x : List UInt8), joinB (x :: xs) = x ++ (xs.map (fun x => 46 :: x)).flatten := by
  intro xs
  induction xs with
  | nil => intro x; simp [joinB]
  | cons y ys ih =>
    intro x
    rw [joinB_cons _ (by simp), ih y]
    simp
theorem glue_join (xs : List (List UInt8)) : glue (List.range xs.length) xs = joinB xs := by
  cases xs with
  | nil => rfl
  | cons x xs =>
    rw [List.range_eq_range', List.length_cons, List.range'_succ, join_flat]
    simp only [glue]
    rw [if_neg (by omega), glue_range xs (0 + 1) (by omega)]
theorem Told6.all {w : World} {ys : List (PartAt w)} {bs : List UInt8} {l : List Int} (h : Told6 ys bs) (ht : Turns ys) (hp : ys.map (·.1.list) = partsOf l) : ∃ xs, mapOne (partsOf l) = some xs ∧ bs = joinB xs := by
  obtain ⟨xs, h1, rfl⟩ := h
  rw [hp] at h1
  refine ⟨xs, h1, ?_⟩
  have hl := mapOne_len h1
  rw [show ys.map (·.1.turn) = List.range xs.length by rw [show ys.map (·.1.turn) = List.range ys.length from ht, hl, ← hp, List.length_map]]
  exact glue_join xs
/-- How long a part is told as. -/
theorem lone_len3 {l : List Int} {x : List UInt8} (h : lone l = some x) (hf : Fit l) : x.length ≤ 3000 := by
  rcases hf.2 with hl | ⟨hp, hl⟩
  · have := lone_len2 h hl; omega
  · by_cases hs : ∀ c ∈ l, scal c = true
    · have he := enc_plain_len hs hp
      by_cases hx : l.take 4 = xnI
      · rw [lone_xn hs hx] at h
        split at h
        · cases h; omega
        · cases h
      · rw [lone_plain hs hx hp] at h; cases h; omega
    · rw [lone_bad hs] at h; cases h
theorem Told6.len {w : World} {pre : List (PartAt w)} {bs : List UInt8} (h : Told6 pre bs) : bs.length ≤ 3001 * pre.length := by
  obtain ⟨xs, h1, rfl⟩ := h
  induction pre generalizing xs with
  | nil => simp [glue]
  | cons p pre ih =>
    rw [List.map_cons] at h1 ⊢
    unfold mapOne at h1
    cases hp : lone p.1.list with
    | none => rw [hp] at h1; cases h1
    | some x =>
      cases hq : mapOne (pre.map (·.1.list)) with
      | none => rw [hp, hq] at h1; cases h1
      | some ys =>
        rw [hp, hq] at h1
        cases h1
        have := ih ys hq
        have hx := lone_len3 hp p.2.2.1
        simp only [glue, List.length_append, List.length_cons]
        split
        · rw [List.length_cons]; omega
        · omega

theorem partsOf_len (l : List Int) : (partsOf l).length ≤ l.length + 1 := by
  induction l with
  | nil => simp [partsOf]
  | cons c l ih =>
    unfold partsOf
    split
    · simp only [List.length_cons]; omega
    · cases hp : partsOf l with
      | nil => exact absurd hp (partsOf_ne l)
      | cons p ps =>
        rw [hp] at ih
        simp only [List.length_cons] at ih ⊢
        omega
theorem no_cells {W : World} {D : Nat} (hK : W.heap[D]? = some (.deferred (some []))) : ∀ r, some D = some r → ∃ o : Obj, W.heap[r]? = some o ∧ o.isCells = false := fun r e => by cases e; exact ⟨_, hK, rfl⟩
/-- What holds between two rounds. -/
structure Mid (w w1 : World) (pre : List (PartAt w1)) (W : World) : Prop where
  two : Two w.heap.size W
  tells : ∃ bs, Told6 pre bs ∧ Bld w1.heap.size w1.heap.size bs W
  old : Below w.heap.size w W
  part : Below w1.heap.size w1 W
/-- What holds where a part may not be. -/
structure Bad (w w1 : World) (pre : List (PartAt w1)) (W : World) : Prop where
  cells : ∃ cs u x, Boxed W w.heap.size 9 (.string ⟨#[]⟩) ∧ Boxed W (w.heap.size + 1) 25 (.iface u x) ∧ Chain W cs (some 2) (.iface u x)
  none_ : mapOne (pre.map (·.1.list)) = none
  old : Below w.heap.size w W
theorem Mid.own {w w1 : World} {B : Nat} (h1 : w.heap.size ≤ B) (h2 : w1.heap.size ≤ B) : OwnFrom B (fun (pre : List (PartAt w1)) W => Mid w w1 pre W) := by
  intro s W W' row h hg hr
  have hr' : ∀ r, row = some r → ∃ o : Obj, W.heap[r]? = some o ∧ o.isCells = false := fun r e => (hr r e).2
  obtain ⟨bs, hb1, hb2⟩ := h.tells
  exact ⟨⟨boxed_keep h.two.1 hg hr', boxed_keep h.two.2 hg hr'⟩, ⟨bs, hb1, bld_own hb2 hg hr'⟩, h.old.grown hg h.old.size (fun k e => Nat.le_trans h1 (hr k e).1), h.part.grown hg h.part.size (fun k e => Nat.le_trans h2 (hr k e).1)⟩
theorem Bad.own {w w1 : World} {B : Nat} (h1 : w.heap.size ≤ B) : OwnFrom B (fun (pre : List (PartAt w1)) W => Bad w w1 pre W) := by
  intro s W W' row h hg hr
  have hr' : ∀ r, row = some r → ∃ o : Obj, W.heap[r]? = some o ∧ o.isCells = false := fun r e => (hr r e).2
  obtain ⟨cs, u, x, h2, h3, h4⟩ := h.cells
  exact ⟨⟨cs, u, x, boxed_keep h2 hg hr', boxed_keep h3 hg hr', chain_own hg hr' h4⟩, h.none_, h.old.grown hg h.old.size (fun k e => Nat.le_trans h1 (hr k e).1)⟩

set_option maxHeartbeats 8000000 in
set_option maxRecDepth 100000 in
theorem all_good_p (PC : PunyC) (A : Option Addr) (l : List Int) (cap : Nat) (w : World) (hv : Vars w) (hg : ∀ c ∈ l, R32 c) (hr : Runes w A l) (hl : l.length ≤ 1400) (f : List Int) (hf : foldL l = some f) (hfit : Fit f) :
    Calls Tryd.prog 6 #[.slice A l.length cap] w (TextPost (lall l).1 (lall l).2 w) := by
  have HFo : Hid (∀ w1, Below w.heap.size w w1 → Calls Tryd.prog 11 #[.slice A l.length cap] w1 (FoldPost (some f) w1)) := by
    intro w1 hb
    have := fold_p A l cap w1 (hv.below hb) hg (hr.below hb) hl
    rwa [hf] at this
  have hf14 := hfit.len
  have HFit := Lib.hid hfit
  have HV := Lib.hid hv
  have HPC := Lib.hid PC
  obtain ⟨R, hR⟩ : ∃ R, lall l = R := ⟨_, rfl⟩
  have HL : Hid (match mapOne (partsOf f) with
    | none => R = (2, [])
    | some ps => R = if joinB ps = [] then (3, []) else (0, joinB ps)) := by
    show match mapOne (partsOf f) with
      | none => R = (2, [])
      | some ps => R = if joinB ps = [] then (3, []) else (0, joinB ps)
    rw [← hR]
    unfold lall
    cases hm : mapOne (partsOf f) <;> simp only [hf, hm]
  rw [hR]
  clear hv hg hr hf hfit PC hR
  refine (callsIn_wide (n := 3)).1 ?_
  refine callsIn_of_wp_marks Tryd.func6 rfl trivial ?_ rfl
  simp only [Tryd.ntmps6, List.size_toArray, List.length_cons, List.length_nil, Nat.reduceAdd, Nat.reduceSub, Array.replicate_succ, Array.replicate_zero, List.push_toArray, List.append_toArray, List.nil_append, List.cons_append]
  have hW : Below w.heap.size w ((w.alloc (.cells #[.string ⟨#[]⟩] 9)).alloc (.cells #[.nilIface] 25)) := ((Below.refl _ w).alloc (Nat.le_refl _) _).alloc (by simp) _
  have HW := Lib.hid hW
  clear hW
  gi_wp2_with (first
    | (refine ⟨trivial, ?_⟩; gi_at_call 11; refine (callsIn_wide.2 (HFo.out _ HW.out)).mono ?_; rintro e w1 ⟨A1, c1, rfl, hr1, hc1, hb⟩; have hz : w.heap.size + 1 < w1.heap.size := (by have := hb.size; simp at this; omega); have HT := Lib.hid ((Two.new w).below hb (by simp)); have HR1 := Lib.hid hr1; have HB := Lib.hid (HW.out.trans (hb.mono (by simp; omega))); have HC1 := Lib.hid hc1; clear hr1 hb hc1)
    | (refine ⟨trivial, ?_⟩; gi_at_call 13; refine (callsIn_wide.2 (parts_any _ _ _ _)).mono ?_; rintro e w' ⟨rfl, rfl⟩))
  have bN := Boxed.new (w1.alloc (.cells #[.pointer none, .slice none 0 0] 40)) 22 (.slice A1 f.length c1)
  rw [World.size_alloc] at bN
  have hb3 : Below w1.heap.size w1 ((w1.alloc (.cells #[.pointer none, .slice none 0 0] 40)).alloc (.cells #[.slice A1 f.length c1] 22)) := ((Below.refl _ w1).alloc (Nat.le_refl _) _).alloc (by simp) _
  have hm0 : Mid w w1 [] ((w1.alloc (.cells #[.pointer none, .slice none 0 0] 40)).alloc (.cells #[.slice A1 f.length c1] 22)) := by
    refine ⟨HT.out.below hb3 hz, ⟨[], ⟨[], rfl, rfl⟩, ?_⟩, HB.out.trans (hb3.mono HB.out.size), hb3⟩
    exact Bld.below (Lib.fresh_isBuilder 40 5 w1) ((Below.refl _ _).alloc (Nat.le_refl _) _)
  have HB3 := Lib.hid hb3
  have HM0 := Lib.hid hm0
  have HBN := Lib.hid bN
  clear hb3 hm0 bN
  refine wpIn_rangeFunc_ownG rfl (by omega) (gf := 35) (lb := #[.pointer (some ⟨w1.heap.size + 1, 0, none⟩)]) rfl trivial (enters_of Tryd.func35 (by kernel_rfl) rfl)
    (parts_stops 2 (by omega) (w1.heap.size + 1) w1 A1 f c1 _ HB3.out (by simp) HBN.out.cell HR1.out HFit.out HC1.out.1) belowK_t (belowK_b (by simp; omega)) (Below.refl _ _) (fun _ => rfl)
    (fun pre W => Mid w w1 pre W) (fun c pre W => c = .ret ∧ Bad w w1 pre W)
    (Mid.own (by simp; omega) (by simp; omega)) (fun c => OwnFrom.and (ownFrom_pure _ (fun _ => c = .ret)) (Bad.own (by simp; omega))) HM0.out
    (fun x => { tmps := #[.slice A l.length cap, undef, .pointer (some ⟨w.heap.size, 0, none⟩), .pointer (some ⟨w.heap.size + 1, 0, none⟩), .slice A1 f.length c1, .nilIface, .pointer (some ⟨w1.heap.size, 0, none⟩), .int .i64 x.1.turn, .slice x.1.addr x.1.len x.1.cap, undef, undef, .tuple #[.slice A1 f.length c1, .nilIface], .slice A l.length cap, .tuple #[.slice A1 f.length c1, .nilIface], .slice A1 f.length c1, .nilIface, .nilIface, .bool false, undef, undef, .slice A1 f.length c1, .func (.func 35) #[] #[.pointer (some ⟨w1.heap.size + 1, 0, none⟩)], .int .i64 x.1.turn, .slice x.1.addr x.1.len x.1.cap, undef, undef, undef, undef, undef, undef, undef, undef, undef, undef, undef, undef, undef, undef, undef, undef, undef, undef], defers := [] }) ?assign ?body ?done ?stop
  case assign =>
    intro l x W K hK
    gi_wp2
    exact hK
  case body =>
    rintro lp pre x W hmid hlt
    have hOne : Calls Tryd.prog 9 #[.slice x.1.addr x.1.len x.1.cap] W (TextPost (oneNo (lone x.1.list)) ((lone x.1.list).getD []) W) := by
      have := one_p HPC.out x.1.addr x.1.list x.1.cap W (HV.out.below hmid.old) (x.2.1.below hmid.part) x.2.2.1 (by rw [x.2.2.2.1]; exact x.2.2.2.2.1)
      rwa [x.2.2.2.1] at this
    have HMid := Lib.hid hmid
    have hpl : pre.length ≤ 1400 := by omega
    have hws := hmid.part.size
    clear hmid
    cases hx : lone x.1.list with
    | none =>
      rw [hx] at hOne
      have HNo := Lib.hid (show mapOne ((pre ++ [x]).map (·.1.list)) = none by rw [List.map_append]; exact mapOne_last hx)
      have HOne := Lib.hid hOne
      clear hx hOne
      gi_wp2_with (refine ⟨trivial, ?_⟩; gi_at_call 9; refine (CallsIn.inRound lp (callsIn_wide.2 HOne.out)).mono ?_; rintro e w2 ⟨cs, u, xx, rfl, hch, hb⟩; have HCh := Lib.hid hch; have HT2 := Lib.hid (HMid.out.two.below hb (by omega)); obtain ⟨⟨hc0, hf0⟩, hc1, hf1⟩ := HT2.out.cells; have HB2 := Lib.hid hb; clear hch hb)
      have hP := HT2.out.put (.string ⟨#[]⟩) (.iface u xx)
      refine ⟨((keeps_below HB2.out).trans ((KeepsOthers.setCell _ _ _).trans (KeepsOthers.setCell _ _ _))).from _, rfl, ⟨cs, u, xx, hP.1, hP.2, HT2.out.chain _ _ HCh.out⟩, HNo.out, ?_⟩
      exact ((bnext HMid.out.old HB2.out).setCell (p := ⟨w.heap.size, 0, none⟩) (Nat.le_refl _) _).setCell (p := ⟨w.heap.size + 1, 0, none⟩) (by simp) _
    | some y =>
      rw [hx] at hOne
      have hyl := lone_len3 hx x.2.2.1
      obtain ⟨bs, hts, hbl⟩ := HMid.out.tells
      have hbsl := hts.len
      have HTs := Lib.hid (hts.snoc hx)
      obtain ⟨yb, hyb⟩ : ∃ yb : ByteArray, yb = ⟨y.toArray⟩ := ⟨_, rfl⟩
      have hys : yb.size ≤ 3000 := by rw [hyb]; show y.toArray.size ≤ _; simpa using hyl
      have HYB : Hid (yb.data.toList = y) := by
        show yb.data.toList = y
        rw [hyb]
      have hOne2 : Calls Tryd.prog 9 #[.slice x.1.addr x.1.len x.1.cap] W fun e w' => e = .returned (.tuple #[.string yb, .nilIface]) ∧ Below W.heap.size W w' := by
        rw [hyb]
        exact hOne
      have HOne := Lib.hid hOne2
      have HBl := Lib.hid hbl
      clear hx hOne hOne2 hts hbl hyb hyl
      by_cases ht : 0 < x.1.turn
      · rw [if_pos ht] at HTs
        gi_wp2_with (first
          | (refine ⟨trivial, ?_⟩; gi_at_call 9; refine (CallsIn.inRound lp (callsIn_wide.2 HOne.out)).mono ?_; rintro e w2 ⟨rfl, hb⟩; have HBl2 := Lib.hid (HBl.out.below hb); have hz2 : w1.heap.size ≤ w2.heap.size := (Nat.le_trans hws hb.size); have HB2 := Lib.hid hb; clear hb)
          | (refine ⟨trivial, ?_⟩; gi_at_call 14; refine (CallsIn.inRound lp (callsIn_wide.2 (bldk_byte w1.heap.size w1.heap.size bs 46 46 _ HBl2.out rfl (by omega) hz2))).mono ?_; rintro e w3 ⟨rfl, hbl3, hb3, hk3⟩; have HBl3 := Lib.hid hbl3; have hz3 : w1.heap.size ≤ w3.heap.size := (Nat.le_trans hz2 hb3.size); have HB3 := Lib.hid hb3; have HK3 := Lib.hid hk3; clear hbl3 hb3 hk3)
          | (refine ⟨trivial, ?_⟩; gi_at_call 15; refine (CallsIn.inRound lp (callsIn_wide.2 (bldk_text w1.heap.size w1.heap.size (bs ++ [46]) yb _ HBl3.out (by rw [List.length_append, List.length_singleton]; omega) hz3))).mono ?_; rintro e w4 ⟨rfl, hbl4, hb4, hk4⟩; have HBl4 := Lib.hid hbl4; have HB4 := Lib.hid hb4; have HK4 := Lib.hid hk4; clear hbl4 hb4 hk4))
        have hB1 : Below w1.heap.size W w4 := ((HB2.out.mono hws).trans HB3.out).trans HB4.out
        refine ⟨(((keeps_below HB2.out).trans HK3.out).trans HK4.out).from _, hB1, HMid.out.two.below hB1 hz, ⟨_, HTs.out, ?_⟩, HMid.out.old.trans (hB1.mono (by omega)), HMid.out.part.trans hB1⟩
        have := HBl4.out
        rw [HYB.out, List.append_assoc] at this
        exact this
      · rw [if_neg ht] at HTs
        gi_wp2_with (first
          | (refine ⟨trivial, ?_⟩; gi_at_call 9; refine (CallsIn.inRound lp (callsIn_wide.2 HOne.out)).mono ?_; rintro e w2 ⟨rfl, hb⟩; have HBl2 := Lib.hid (HBl.out.below hb); have hz2 : w1.heap.size ≤ w2.heap.size := (Nat.le_trans hws hb.size); have HB2 := Lib.hid hb; clear hb)
          | (refine ⟨trivial, ?_⟩; gi_at_call 15; refine (CallsIn.inRound lp (callsIn_wide.2 (bldk_text w1.heap.size w1.heap.size bs yb _ HBl2.out (by omega) hz2))).mono ?_; rintro e w4 ⟨rfl, hbl4, hb4, hk4⟩; have HBl4 := Lib.hid hbl4; have HB4 := Lib.hid hb4; have HK4 := Lib.hid hk4; clear hbl4 hb4 hk4))
        have hB1 : Below w1.heap.size W w4 := (HB2.out.mono hws).trans HB4.out
        refine ⟨((keeps_below HB2.out).trans HK4.out).from _, hB1, HMid.out.two.below hB1 hz, ⟨_, HTs.out, ?_⟩, HMid.out.old.trans (hB1.mono (by omega)), HMid.out.part.trans hB1⟩
        have := HBl4.out
        rw [HYB.out] at this
        exact this
  case done =>
    rintro D ys W hD ⟨htu, hpa⟩ hmid hK
    obtain ⟨bs, hts, hbl⟩ := hmid.tells
    obtain ⟨xs, hmo, hbj⟩ := hts.all htu hpa
    have hRv : R = if bs = [] then (3, []) else (0, bs) := by
      have h := HL.out
      rw [hmo] at h
      rw [hbj]
      exact h
    have hbsl := hts.len
    have hyl : ys.length ≤ 1401 := by
      have := congrArg List.length hpa
      rw [List.length_map] at this
      have := partsOf_len f
      omega
    have HMid := Lib.hid hmid
    have hws := hmid.part.size
    have HD := Lib.hid hD
    have HK := Lib.hid hK
    have HBl := Lib.hid hbl
    clear hts htu hpa hmo hbj hbl hmid hD hK
    by_cases hb0 : bs = []
    · subst hb0
      obtain rfl : R = (3, []) := by rw [hRv, if_pos rfl]
      clear hRv
      gi_wp2_with (first
        | (refine ⟨trivial, ?_⟩; gi_at_call 16; refine (callsIn_wide.2 (qlen_any w1.heap.size w1.heap.size [] _ HBl.out)).mono ?_; rintro e w' ⟨rfl, rfl⟩)
        | (refine ⟨trivial, ?_⟩; gi_at_call 12; refine (callsIn_wide.2 (wrap6_p [] 3 _ _ _ rfl)).mono ?_; rintro e w2 ⟨rfl, cs2, hch, hb⟩; have HCh2 := Lib.hid hch; have HT2 := Lib.hid (HMid.out.two.below hb (by omega)); obtain ⟨⟨hc0, hf0⟩, hc1, hf1⟩ := HT2.out.cells; have HB2 := Lib.hid hb; clear hch hb))
      have hP := HT2.out.put (.string ⟨#[]⟩) (.iface 101 (.pointer (some ⟨W.heap.size, 0, none⟩)))
      have hK2 := (((keeps_below HB2.out).trans (KeepsOthers.setCell _ ⟨w.heap.size, 0, none⟩ (.string ⟨#[]⟩))).trans (KeepsOthers.setCell _ ⟨w.heap.size + 1, 0, none⟩ (.iface 101 (.pointer (some ⟨W.heap.size, 0, none⟩))))).same D _ HK.out rfl
      refine ⟨by simp, .inl ⟨_, _, rfl, run_takeDeferred hK2, ?_⟩⟩
      have hr' := no_cells hK2
      have hd0 := (boxed_keep hP.1 (grownBy_putObj' _ D (.deferred none)) hr').cell
      have hd1 := (boxed_keep hP.2 (grownBy_putObj' _ D (.deferred none)) hr').cell
      refine ⟨.tuple #[.string ⟨#[]⟩, .iface 101 (.pointer (some ⟨W.heap.size, 0, none⟩))], ?_, ⟨cs2, _, _, rfl, chain_own (grownBy_putObj' _ D (.deferred none)) hr' (HT2.out.chain _ _ HCh2.out), ?_⟩⟩
      · simp [results, Tryd.f6, go_sem, hd0, hd1]
      · exact (((bnext HMid.out.old HB2.out).setCell (p := ⟨w.heap.size, 0, none⟩) (Nat.le_refl _) _).setCell (p := ⟨w.heap.size + 1, 0, none⟩) (by simp) _).trans (belowK_b (w := w) (Nat.le_refl _) _ D _ _ (by have := HD.out; simp at this; omega) hK2 rfl rfl)
    · have hbl0 : 0 < bs.length := List.length_pos_iff.2 hb0
      obtain rfl : R = (0, bs) := by rw [hRv, if_neg hb0]
      clear hRv hb0
      gi_wp2_with (first
        | (refine ⟨trivial, ?_⟩; gi_at_call 16; refine (callsIn_wide.2 (qlen_any w1.heap.size w1.heap.size bs _ HBl.out)).mono ?_; rintro e w' ⟨rfl, rfl⟩)
        | (refine ⟨trivial, ?_⟩; gi_at_call 17; refine (callsIn_wide.2 (bldk_done w1.heap.size w1.heap.size bs _ HBl.out hws)).mono ?_; rintro e w2 ⟨rfl, hb, hks⟩; have HKs := Lib.hid hks; have HT2 := Lib.hid (HMid.out.two.below hb hz); obtain ⟨⟨hc0, hf0⟩, hc1, hf1⟩ := HT2.out.cells; have HB2 := Lib.hid hb; clear hb hks))
      have hP := HT2.out.put (.string ⟨bs.toArray⟩) .nilIface
      have hDw : w1.heap.size ≤ D := by have := HD.out; simp at this; omega
      have hKw : w2.heap[D]? = some (.deferred (some [])) := HKs.out D _ HK.out rfl
      have hK2 := ((KeepsOthers.setCell w2 ⟨w.heap.size, 0, none⟩ (.string ⟨bs.toArray⟩)).trans (KeepsOthers.setCell _ ⟨w.heap.size + 1, 0, none⟩ .nilIface)).same D _ hKw rfl
      refine ⟨by simp, .inl ⟨_, _, rfl, run_takeDeferred hK2, ?_⟩⟩
      have hr' := no_cells hK2
      have hd0 := (boxed_keep hP.1 (grownBy_putObj' _ D (.deferred none)) hr').cell
      have hd1 := (boxed_keep hP.2 (grownBy_putObj' _ D (.deferred none)) hr').cell
      refine ⟨.tuple #[.string ⟨bs.toArray⟩, .nilIface], ?_, text_no rfl ?_⟩
      · simp [results, Tryd.f6, go_sem, hd0, hd1]
      · exact (((HMid.out.old.trans (HB2.out.mono (by omega))).setCell (p := ⟨w.heap.size, 0, none⟩) (Nat.le_refl _) _).setCell (p := ⟨w.heap.size + 1, 0, none⟩) (by simp) _).trans (belowK_b (w := w) (Nat.le_refl _) _ D _ _ (by omega) hK2 rfl rfl)
  case stop =>
    rintro D c pre W hD ⟨htu, hpa⟩ ⟨rfl, hbad⟩ hK
    obtain ⟨cs, u, xx, hd0, hd1, hch⟩ := hbad.cells
    have hRv := HL.out
    obtain ⟨rest, hrest⟩ := hpa
    rw [← hrest, mapOne_no hbad.none_] at hRv
    obtain rfl : R = (2, []) := hRv
    gi_wp2
    refine ⟨by simp, .inl ⟨_, _, rfl, run_takeDeferred hK, ?_⟩⟩
    have hr' : ∀ r, some D = some r → ∃ o : Obj, W.heap[r]? = some o ∧ o.isCells = false := fun r e => by cases e; exact ⟨_, hK, rfl⟩
    have hc0 := (boxed_keep hd0 (grownBy_putObj' _ D (.deferred none)) hr').cell
    have hc1 := (boxed_keep hd1 (grownBy_putObj' _ D (.deferred none)) hr').cell
    refine ⟨.tuple #[.string ⟨#[]⟩, .iface u xx], ?_, text_two rfl (chain_own (grownBy_putObj' _ D (.deferred none)) hr' hch) ?_⟩
    · simp [results, Tryd.f6, go_sem, hc0, hc1]
    · exact hbad.old.trans (belowK_b (w := w) (Nat.le_refl _) W D _ _ (by simp at hD; omega) hK rfl rfl)
end Go.Proofs.YtfaieldafoeaiaaDoor

/-
  Worlds that differ in some blocks alone; a builder with its own blocks told.
-/
namespace Go.Proofs.YtfaieldafoeaiaaDoor
open Go.RowKit

/-- All blocks but those listed hold what they held. -/
structure Kept (S : List Nat) (w w' : World) : Prop where
  os : w'.os = w.os
  tape : w'.tape = w.tape
  output : w'.output = w.output
  size : w.heap.size ≤ w'.heap.size
  block : ∀ k, k < w.heap.size → k ∉ S → w'.heap[k]? = w.heap[k]?

theorem Kept.refl (S : List Nat) (w : World) : Kept S w w := ⟨rfl, rfl, rfl, Nat.le_refl _, fun _ _ _ => rfl⟩
theorem Kept.trans {S S2 : List Nat} {a b c : World} (h : Kept S a b) (k : Kept S2 b c) (hs : ∀ k ∈ S2, k ∈ S ∨ a.heap.size ≤ k) : Kept S a c :=
  ⟨k.os.trans h.os, k.tape.trans h.tape, k.output.trans h.output, Nat.le_trans h.size k.size, fun i hi hn => (k.block i (Nat.lt_of_lt_of_le hi h.size) (fun hm => (hs i hm).elim hn (fun h' => by omega))).trans (h.block i hi hn)⟩
theorem Kept.mono {S S2 : List Nat} {a b : World} (h : Kept S a b) (hs : ∀ k ∈ S, k ∈ S2 ∨ a.heap.size ≤ k) : Kept S2 a b :=
  (Kept.refl S2 a).trans h hs
theorem Kept.drew {S : List Nat} {a w : World} (h : Kept S a w) : Kept S a w.drew := ⟨h.os, h.tape, h.output, h.size, h.block⟩
theorem Kept.drewN {S : List Nat} {a w : World} (h : Kept S a w) (n : Nat) : Kept S a (w.drewN n) := ⟨h.os, h.tape, h.output, h.size, h.block⟩
theorem Kept.alloc {S : List Nat} {a w : World} (h : Kept S a w) (o : Obj) : Kept S a (w.alloc o) :=
  h.trans (S2 := []) ⟨rfl, rfl, rfl, by simp, fun k hk _ => Below.heap_alloc _ _ _ hk⟩ (by simp)
theorem Kept.setCell {S : List Nat} {a w : World} (h : Kept S a w) {p : Addr} (hp : p.block ∈ S ∨ a.heap.size ≤ p.block) (u : Value) : Kept S a (w.setCell p u) :=
  h.trans (S2 := [p.block]) ⟨rfl, rfl, rfl, by simp [World.setCell], fun k _ hk => Below.heap_setCell _ _ _ _ (by simpa using hk)⟩ (by simpa using hp)
theorem Kept.grown {S : List Nat} {a w w' : World} {row : Option Nat} (h : Kept S a w) (hg : w.grownBy w' row) (hr : ∀ k, row = some k → k ∈ S ∨ a.heap.size ≤ k) : Kept S a w' :=
  h.trans (S2 := row.toList) ⟨hg.os, hg.tape, hg.output, hg.size, fun k hk hn => hg.block k hk (fun e => hn (by rw [← e]; simp))⟩ (fun k hk => hr k (by simpa using hk))
theorem Kept.cell {S : List Nat} {w w' : World} (h : Kept S w w') {p : Addr} (hl : p.block < w.heap.size) (hp : p.block ∉ S) : w'.cell? p = w.cell? p := World.cell?_of_block (w := w) (h.block p.block hl hp)
theorem Kept.frozen {S : List Nat} {w w' : World} (h : Kept S w w') {p : Addr} (hl : p.block < w.heap.size) (hp : p.block ∉ S) : w'.frozen? p = w.frozen? p := World.frozen?_of_block (w := w) (h.block p.block hl hp)
theorem Kept.below {S : List Nat} {w w' : World} {B : Nat} (h : Kept S w w') (hB : B ≤ w.heap.size) (hs : ∀ k ∈ S, B ≤ k) : Below B w w' :=
  ⟨h.os, h.tape, h.output, h.size, fun k hk => h.block k (by omega) (fun hm => by have := hs k hm; omega)⟩
theorem Kept.of_below {w w' : World} (h : Below w.heap.size w w') (S : List Nat) : Kept S w w' := ⟨h.os, h.tape, h.output, h.size, fun k hk _ => h.block k hk⟩
theorem Kept.grownBy {w w' : World} {S : List Nat} {row : Option Nat} (h : Kept S w w') (hs : ∀ k ∈ S, row = some k ∨ w.heap.size ≤ k) : w.grownBy w' row :=
  ⟨h.os, h.tape, h.output, h.size, fun k hk hn => h.block k hk (fun hm => (hs k hm).elim (fun e => hn e.symm) (fun h' => by omega))⟩
theorem owns_kept {S : List Nat} {w w' : World} {base : Nat} {e : TypeId} {size : Nat} {v : Value} {n : Nat} {xs : List Value} (h : w.ownsRow base e size v n xs) (hk : Kept S w w') (hs : ∀ k, v.ownBlock = some k → k ∉ S) : w'.ownsRow base e size v n xs := by
  obtain ⟨h1, h2⟩ := h
  refine ⟨h1, ?_⟩
  rcases h2 with h2 | ⟨g, cap, cur, rfl, hg, hh, r⟩
  · exact .inl h2
  · exact .inr ⟨g, cap, cur, rfl, hg, (hk.block g (Array.getElem?_eq_some_iff.1 hh).1 (hs g rfl)).trans hh, r⟩

/-- A builder in block b, its row in block o, with its bytes. -/
def BldO (b : Nat) (o : Option Nat) (l : List UInt8) (w : World) : Prop :=
  ∃ p v, (p = .pointer none ∨ p = .pointer (some ⟨b, 0, none⟩)) ∧ w.heap[b]? = some (.cells #[p, v] 40 (0, 0)) ∧ w.ownsRow 0 5 1 v l.length (Lib.byteCells l) ∧ v.ownBlock = o ∧ o ≠ some b
theorem BldO.lt {b : Nat} {o : Option Nat} {l : List UInt8} {w : World} (h : BldO b o l w) : b < w.heap.size := by
  obtain ⟨p, v, _, hbk, _⟩ := h
  exact (Array.getElem?_eq_some_iff.1 hbk).1
theorem BldO.olt {b : Nat} {o : Option Nat} {l : List UInt8} {w : World} (h : BldO b o l w) : ∀ k, o = some k → k < w.heap.size := by
  obtain ⟨p, v, _, _, hown, rfl, _⟩ := h
  exact fun k hk => (hown.lt k hk).2
theorem BldO.kept {b : Nat} {o : Option Nat} {l : List UInt8} {w w' : World} {S : List Nat} (h : BldO b o l w) (hk : Kept S w w') (hb : b ∉ S) (ho : ∀ k, o = some k → k ∉ S) : BldO b o l w' := by
  have hlt := h.lt
  obtain ⟨p, v, hp, hbk, hown, rfl, hne⟩ := h
  exact ⟨p, v, hp, (hk.block b hlt hb).trans hbk, owns_kept hown hk ho, rfl, hne⟩
theorem byteCells_len (l : List UInt8) : (Lib.byteCells l).length = l.length := by simp [Lib.byteCells]
theorem BldO.is {b : Nat} {o : Option Nat} {l : List UInt8} {w : World} (h : BldO b o l w) : Lib.IsBuilder 40 5 0 b (Lib.byteCells l) w := by
  obtain ⟨p, v, hp, hbk, hown, rfl, hne⟩ := h
  rcases hp with rfl | rfl
  · exact .inl ⟨Nat.zero_le _, v, hbk, by rw [byteCells_len]; exact hown, hne⟩
  · exact .inr ⟨Nat.zero_le _, v, hbk, by rw [byteCells_len]; exact hown, hne⟩
/-- Where a builder's row lies behind a write: where it lay, or in a new block. -/
def OAt (w : World) (o o' : Option Nat) : Prop := o' = o ∨ ∃ k, o' = some k ∧ w.heap.size ≤ k

theorem copyCheck_o (b : Nat) (o : Option Nat) (l : List UInt8) (w : World) (h : BldO b o l w) :
    Calls Tryd.prog 37 #[.pointer (some ⟨b, 0, none⟩)] w fun e w' => e = .returned (.tuple #[]) ∧
      (∃ v, w'.heap[b]? = some (.cells #[.pointer (some ⟨b, 0, none⟩), v] 40 (0, 0)) ∧ w'.ownsRow 0 5 1 v l.length (Lib.byteCells l) ∧ v.ownBlock = o) ∧ Kept [b] w w' ∧ w'.heap.size = w.heap.size := by
  have hlt := h.lt
  have hi := h.is
  obtain ⟨p, v, hp, hbk, hown, rfl, hne⟩ := h
  rcases hp with rfl | rfl
  · have h0 : Lib.BuilderAt 40 5 0 b (.pointer none) (Lib.byteCells l) w := ⟨Nat.zero_le _, v, hbk, by rw [byteCells_len]; exact hown, hne⟩
    refine (copyCheck_fresh b w h0.cell0 h0.shape h0.frozen0).mono ?_
    rintro e w' ⟨rfl, rfl⟩
    have hk : Kept [b] w (w.setCell ⟨b, 0, none⟩ (.pointer (some ⟨b, 0, none⟩))) := (Kept.refl _ _).setCell (p := ⟨b, 0, none⟩) (.inl (by simp)) _
    refine ⟨rfl, ⟨v, ?_, owns_kept hown hk (fun k hk' => by rw [hk'] at hne; simpa using hne), rfl⟩, hk, by simp [World.setCell]⟩
    simp [World.setCell, Array.getElem?_modify, hbk]
  · have h0 : Lib.BuilderAt 40 5 0 b (.pointer (some ⟨b, 0, none⟩)) (Lib.byteCells l) w := ⟨Nat.zero_le _, v, hbk, by rw [byteCells_len]; exact hown, hne⟩
    refine (copyCheck_used b w h0.cell0).mono ?_
    rintro e w' ⟨rfl, rfl⟩
    exact ⟨rfl, ⟨v, hbk, hown, rfl⟩, Kept.refl _ _, rfl⟩

set_option maxHeartbeats 1000000 in
set_option maxRecDepth 100000 in
/-- WriteByte. -/
theorem bldo_byte (b : Nat) (o : Option Nat) (l : List UInt8) (c : UInt8) (x : Int) (w : World) (h : BldO b o l w) (hx : x = (c.toNat : Int)) (hlen : l.length + 1 ≤ 1000000) :
    Calls Tryd.prog 14 #[.pointer (some ⟨b, 0, none⟩), .int .u8 x] w fun e w' => e = .returned .nilIface ∧ ∃ o', BldO b o' (l ++ [c]) w' ∧ OAt w o o' ∧ Kept (b :: o.toList) w w' := by
  subst hx
  obtain ⟨i0, hi, hz0, hz1, hz2⟩ := info_parts bldExtra.infoByte
  have hlt := h.lt
  have holt := h.olt
  have hne : o ≠ some b := by obtain ⟨p, v, hp, hbk, hown, rfl, hne⟩ := h; exact hne
  have HH := Lib.hid h
  clear h
  go_enter Tryd.func14, Tryd.ntmps14
  go_wp2_with (go_at_call 37; refine (copyCheck_o b o l _ HH.out).mono ?_)
  rintro e w1 ⟨rfl, ⟨v, hbk, hown, hvo⟩, hk1, hsz⟩
  have hne1 : v.ownBlock ≠ some b := by rw [hvo]; exact hne
  have c0 : w1.cell? ⟨b, 0, none⟩ = some (.pointer (some ⟨b, 0, none⟩)) := by rw [Lib.cell_of_heap hbk]; rfl
  have c1 : w1.cell? ⟨b, 1, none⟩ = some v := by rw [Lib.cell_of_heap hbk]; rfl
  have HZ := Lib.hid hsz
  have HV := Lib.hid hvo
  clear hsz hvo
  go_wp2_with (at_builtin; refine wpList_append_own_at _ rfl _ _ 38 rfl 0 5 i0 (.int .u8 0) 1 1 Tryd.underlying38 hi hz0 hz1 hz2 rfl (by decide) _ _ _ rfl (hown.alloc _) ⟨w1.heap.size, 0, none⟩ 1 1 [.int .u8 (c.toNat : Int)] rfl rfl ?c1 ?c2 ?c3 ?c4 ?c5 ?_)
  case c1 => exact cell_one_new _ _ _
  case c2 => intro u hu; simp at hu; subst hu; rfl
  case c3 => unfold maxLen; omega
  case c4 => omega
  case c5 => exact Nat.zero_le _
  intro v' w2 hown' hgrow _ hat
  have hlt1 : b < w1.heap.size := (Array.getElem?_eq_some_iff.1 hbk).1
  have hb2 : w2.heap[b]? = some (.cells #[.pointer (some ⟨b, 0, none⟩), v] 40 (0, 0)) := by
    rw [hgrow.block b (by simp; omega) (fun e => hne1 e.symm), Lib.alloc_old w1 _ b hlt1]
    exact hbk
  have d0 : w2.cell? ⟨b, 0, none⟩ = some (.pointer (some ⟨b, 0, none⟩)) := by rw [Lib.cell_of_heap hb2]; rfl
  have d1 : w2.cell? ⟨b, 1, none⟩ = some v := by rw [Lib.cell_of_heap hb2]; rfl
  have f1 : w2.frozen? ⟨b, 1, none⟩ = false := Lib.frozen_of_heap hb2 1
  obtain ⟨g, cap, rfl⟩ : ∃ g cap, v' = .slice (some ⟨g, 0, none⟩) (l.length + 1) cap := by
    rcases hown'.2 with ⟨_, h0⟩ | ⟨g, cap, cur, hv, _⟩
    · omega
    · exact ⟨g, cap, hv⟩
  have hKK : Kept (b :: o.toList) w w2 := by
    refine ((hk1.mono (S2 := b :: o.toList) (by simp)).alloc _).grown hgrow (fun k hk => .inl ?_)
    rw [HV.out] at hk
    simp [hk]
  have hOO : OAt w o (some g) := by
    rcases hat with e | e
    · left
      rw [HV.out] at e
      exact e
    · right
      refine ⟨g, rfl, ?_⟩
      have : g = (w1.alloc (.cells #[.int .u8 (c.toNat : Int)] 5)).heap.size := by simpa [Value.ownBlock] using e
      simp at this
      have := HZ.out
      omega
  have HK := Lib.hid (And.intro hKK hOO)
  clear hKK hOO hat
  go_wp2
  go_ret
  have hput := Lib.BuilderAt.put (T := 40) (e := 5) (Nat.zero_le b) hb2 (bs' := Lib.byteCells (l ++ [c])) (v' := .slice (some ⟨g, 0, none⟩) (l.length + 1) cap) (by rw [byteCells_append, List.length_append, byteCells_len]; exact hown') (by decide)
  obtain ⟨_, v3, hb3, hown3, hne3⟩ := hput
  have e3 : v3 = .slice (some ⟨g, 0, none⟩) (l.length + 1) cap := by
    simp [World.setCell, Array.getElem?_modify, hb2] at hb3
    exact hb3.symm
  subst e3
  refine ⟨rfl, some g, ⟨_, _, .inr rfl, hb3, ?_, rfl, hne3⟩, HK.out.2, HK.out.1.setCell (p := ⟨b, 1, none⟩) (.inl (by simp)) _⟩
  rw [byteCells_len] at hown3
  exact hown3
end Go.Proofs.YtfaieldafoeaiaaDoor

/-
  The tally: marks counted by a binary indexed tree.
-/
namespace Go.Proofs.YtfaieldafoeaiaaDoor
open Go.RowKit

/-- The least bit that is set. -/
def lb (n : Nat) : Nat := (bits BinOp.and IntKind.i64 (n : Int) (-(n : Int))).toNat
theorem lb_one : ∀ a : Fin 257, 0 < a.val → bits BinOp.and IntKind.i64 (a.val : Int) (-(a.val : Int)) = (lb a.val : Int) ∧ 1 ≤ lb a.val ∧ lb a.val ≤ a.val := by decide +kernel
theorem lb_between : ∀ a : Fin 257, 0 < a.val → ∀ i : Fin 257, a.val < i.val → i.val < a.val + lb a.val → a.val ≤ i.val - lb i.val := by decide +kernel
theorem lb_next : ∀ a : Fin 257, 0 < a.val → a.val + lb a.val ≤ 256 → a.val + lb a.val - lb (a.val + lb a.val) ≤ a.val - lb a.val := by decide +kernel
theorem lb_zero : lb 0 = 0 := by decide +kernel

/-- How many are marked ahead of a place. -/
def cnt (M : Nat → Bool) : Nat → Nat
  | 0 => 0
  | n + 1 => cnt M n + if M n then 1 else 0
theorem cnt_mono (M : Nat → Bool) {a b : Nat} (h : a ≤ b) : cnt M a ≤ cnt M b := by
  induction b with
  | zero => rw [Nat.le_zero.1 h]; exact Nat.le_refl _
  | succ b ih =>
    by_cases e : a = b + 1
    · subst e; exact Nat.le_refl _
    · exact Nat.le_trans (ih (by omega)) (Nat.le_add_right _ _)
theorem cnt_le (M : Nat → Bool) (n : Nat) : cnt M n ≤ n := by
  induction n with
  | zero => exact Nat.le_refl _
  | succ n ih => show cnt M n + _ ≤ _; split <;> omega
/-- One place more is marked. -/
def mark (M : Nat → Bool) (p : Nat) : Nat → Bool := fun i => M i || i == p
theorem cnt_mark (M : Nat → Bool) (p : Nat) (hp : M p = false) (n : Nat) : cnt (mark M p) n = cnt M n + if p < n then 1 else 0 := by
  induction n with
  | zero => simp [cnt]
  | succ n ih =>
    show cnt (mark M p) n + (if (M n || n == p) = true then 1 else 0) = (cnt M n + if M n = true then 1 else 0) + _
    rw [ih]
    by_cases e : n = p
    · subst e; rw [hp]; simp
    · have e1 : (n == p) = false := beq_eq_false_iff_ne.2 e
      rw [e1, Bool.or_false]
      by_cases h : p < n
      · rw [if_pos h, if_pos (show p < n + 1 by omega)]; omega
      · rw [if_neg h, if_neg (show ¬ p < n + 1 by omega)]; omega
/-- What the tree holds at a place. -/
def fen (M : Nat → Bool) (i : Nat) : Nat := cnt M i - cnt M (i - lb i)
theorem fen_mark (M : Nat → Bool) (p : Nat) (hp : M p = false) (i : Nat) : fen (mark M p) i = fen M i + if i - lb i ≤ p ∧ p < i then 1 else 0 := by
  unfold fen
  rw [cnt_mark M p hp, cnt_mark M p hp]
  have := cnt_mono M (Nat.sub_le i (lb i))
  have h2 : i - lb i ≤ i := Nat.sub_le _ _
  repeat' split
  all_goals omega

/-- A tally in block bt, of n places. -/
def Tally (bt n : Nat) (M : Nat → Bool) (w : World) : Prop := bt < w.heap.size ∧ ∀ i, i ≤ n → w.cell? ⟨bt, i, none⟩ = some (.int .i64 (fen M i : Int)) ∧ w.frozen? ⟨bt, i, none⟩ = false
theorem Tally.kept {bt n : Nat} {M : Nat → Bool} {w w' : World} {S : List Nat} (h : Tally bt n M w) (hk : Kept S w w') (hb : bt ∉ S) : Tally bt n M w' :=
  ⟨Nat.lt_of_lt_of_le h.1 hk.size, fun i hi => ⟨(hk.cell (p := ⟨bt, i, none⟩) h.1 hb).trans (h.2 i hi).1, (hk.frozen (p := ⟨bt, i, none⟩) h.1 hb).trans (h.2 i hi).2⟩⟩

set_option maxHeartbeats 1000000 in
set_option maxRecDepth 100000 in
theorem qahead_any (bt n p : Nat) (M : Nat → Bool) (w : World) (hn : n ≤ 250) (hp : p ≤ n) (h : Tally bt n M w) :
    Calls Tryd.prog 53 #[.slice (some ⟨bt, 0, none⟩) (n + 1) (n + 1), .int .i64 p] w fun e w' => e = .returned (.int .i64 (cnt M p)) ∧ w = w' := by
  go_enter Tryd.func53, Tryd.ntmps53
  go_wp2
  go_loopw [5, 6] (fun s a wr => ∃ sum t : Nat, s = .int .i64 sum ∧ a = .int .i64 t ∧ wr = w ∧ t ≤ p ∧ sum + cnt M t = cnt M p) (fun _ a _ => (intOf a).toNat)
  case atStart => exact ⟨0, p, rfl, rfl, rfl, Nat.le_refl _, by simp⟩
  case round =>
    obtain ⟨sum, t, rfl, rfl, hw, ht, hs⟩ := hrel
    have := hw.symm; subst this
    clear hw
    have hsb := cnt_le M p
    by_cases h0 : 0 < t
    · have hc := (h.2 t (by omega)).1
      obtain ⟨hb1, hb2, hb3⟩ := lb_one ⟨t, by omega⟩ h0
      simp only at hb1 hb2 hb3
      have hf1 : fen M t + cnt M (t - lb t) = cnt M t := by
        have := cnt_mono M (Nat.sub_le t (lb t))
        unfold fen; omega
      clear h
      obtain ⟨b, hbe⟩ : ∃ b, lb t = b := ⟨_, rfl⟩
      rw [hbe] at hb1 hb2 hb3 hf1
      have HF : Hid (fen M t + cnt M (t - b) = cnt M t) := hf1
      have HS : Hid (sum + cnt M t = cnt M p) := hs
      obtain ⟨f, hfe⟩ : ∃ f, fen M t = f := ⟨_, rfl⟩
      rw [hfe] at hc HF
      have hfb : sum + f ≤ p := by omega
      clear hbe hf1 hs hfe
      go_wp2
      go_roundw
      case rel => exact ⟨sum + f, t - b, by go_num, by go_num, by first | rfl | trivial, by omega, by have h1 := HF.out; have h2 := HS.out; omega⟩
      case measure => simp [intOf]; omega
    · obtain rfl : t = 0 := by omega
      have HS : Hid (sum = cnt M p) := hs
      clear h hs
      go_wp2
      go_ret
      exact ⟨ret_int (by rw [← HS.out]), rfl⟩

set_option maxHeartbeats 1000000 in
set_option maxRecDepth 100000 in
theorem qmark_any (bt n p : Nat) (M : Nat → Bool) (w : World) (hn : n ≤ 250) (hp : p < n) (hM : M p = false) (h : Tally bt n M w) :
    Calls Tryd.prog 49 #[.slice (some ⟨bt, 0, none⟩) (n + 1) (n + 1), .int .i64 p] w fun e w' => e = .returned (.tuple #[]) ∧ Tally bt n (mark M p) w' ∧ Kept [bt] w w' := by
  go_enter Tryd.func49, Tryd.ntmps49
  go_wp2
  go_loopw [4] (fun a wr => ∃ t : Nat, a = .int .i64 t ∧ p < t ∧ (t ≤ n → t - lb t ≤ p) ∧ t ≤ 512 ∧ Kept [bt] w wr ∧ bt < wr.heap.size ∧
      ∀ i, i ≤ n → wr.cell? ⟨bt, i, none⟩ = some (.int .i64 ((fen M i + if i < t ∧ i - lb i ≤ p ∧ p < i then 1 else 0 : Nat) : Int)) ∧ wr.frozen? ⟨bt, i, none⟩ = false) (fun a _ => n + 1 - (intOf a).toNat)
  case atStart =>
    refine ⟨p + 1, by go_num, by omega, fun _ => ?_, by omega, Kept.refl _ _, h.1, fun i hi => ⟨?_, (h.2 i hi).2⟩⟩
    · have := lb_one ⟨p + 1, by omega⟩ (Nat.succ_pos p)
      simp only at this
      omega
    · rw [(h.2 i hi).1, if_neg (by omega)]
      rfl
  case round =>
    obtain ⟨t, rfl, hpt, htl, ht256, hK, hlt, hcell⟩ := hrel
    clear h
    have HK := Lib.hid hK
    clear hK
    have hsb := cnt_le M n
    by_cases h0 : t ≤ n
    · obtain ⟨hb1, hb2, hb3⟩ := lb_one ⟨t, by omega⟩ (show 0 < t by omega)
      simp only at hb1 hb2 hb3
      obtain ⟨hc, hf⟩ := hcell t h0
      rw [if_neg (by omega)] at hc
      have hfm : fen M t ≤ n := by
        have h1 := cnt_mono M h0
        unfold fen; omega
      have HL := Lib.hid (And.intro htl (And.intro (lb_between ⟨t, by omega⟩ (show 0 < t by omega)) (lb_next ⟨t, by omega⟩ (show 0 < t by omega))))
      have HC := Lib.hid hcell
      clear hcell htl
      obtain ⟨b, hbe⟩ : ∃ b, lb t = b := ⟨_, rfl⟩
      rw [hbe] at hb1 hb2 hb3
      have HBE := Lib.hid hbe
      obtain ⟨f, hfe⟩ : ∃ f, fen M t = f := ⟨_, rfl⟩
      rw [hfe] at hfm
      simp only [hfe, Nat.add_zero] at hc
      have HFE := Lib.hid hfe
      clear hbe hfe
      go_wp2
      go_roundw
      case rel =>
        obtain ⟨hl1, hl2, hl3⟩ := HL.out
        simp only [HBE.out] at hl1 hl2 hl3
        refine ⟨t + b, by go_num, by omega, fun hle => ?_, by omega, HK.out.setCell (p := ⟨bt, t, none⟩) (.inl (by simp)) _, by simpa using hlt, fun i hi => ?_⟩
        · have := hl3 (by omega)
          omega
        · rw [World.frozen?_setCell]
          refine ⟨?_, (HC.out i hi).2⟩
          by_cases e : i = t
          · subst e
            rw [World.cell?_setCell_same' _ _ _ (by rw [(HC.out i hi).1]; rfl), if_pos ⟨by omega, by rw [HBE.out]; exact hl1 h0, hpt⟩, HFE.out]
            rfl
          · rw [World.cell?_setCell_other _ _ _ _ (by intro e'; simp only [Addr.mk.injEq] at e'; omega), (HC.out i hi).1]
            by_cases h1 : i < t
            · simp only [h1, show i < t + b by omega]
            · by_cases h2 : i < t + b
              · have := hl2 ⟨i, by omega⟩ (show t < i by omega) h2
                simp only at this
                rw [if_neg (by omega), if_neg (by omega)]
              · rw [if_neg (by omega), if_neg (by omega)]
      case measure => simp [intOf]; omega
    · have HC : Hid (Tally bt n (mark M p) wr) := ⟨hlt, fun i hi => ⟨by rw [(hcell i hi).1, fen_mark M p hM]; simp only [show i < t by omega, true_and], (hcell i hi).2⟩⟩
      clear hcell htl
      go_wp2
      go_end0
      exact ⟨rfl, HC.out, HK.out⟩
end Go.Proofs.YtfaieldafoeaiaaDoor

/-
  The stable sort by blocks and symmetric merges, as plain lists.
-/
namespace Go.Proofs.YtfaieldafoeaiaaDoor

/-- By the key, and then by the place. -/
def prec (key : Nat → Int) (x y : Nat) : Prop := key x < key y ∨ (key x = key y ∧ x < y)
theorem prec_trans {key : Nat → Int} {x y z : Nat} (h1 : prec key x y) (h2 : prec key y z) : prec key x z := by unfold prec at *; omega
theorem prec_irrefl {key : Nat → Int} {x : Nat} : ¬ prec key x x := by unfold prec; omega
theorem prec_total {key : Nat → Int} {x y : Nat} (h : ¬ prec key y x) (hne : x ≠ y) : prec key x y := by unfold prec at *; omega
theorem prec_cross {key : Nat → Int} {x y : Nat} (h : x < y) : key y < key x ↔ prec key y x := by unfold prec; omega
theorem prec_cross' {key : Nat → Int} {x y : Nat} (h : x < y) (hn : ¬ key y < key x) : prec key x y := by unfold prec; omega

abbrev Srt (key : Nat → Int) (l : List Nat) : Prop := l.Pairwise (prec key)
theorem srt_append {key : Nat → Int} {a b : List Nat} (ha : Srt key a) (hb : Srt key b) (h : ∀ x ∈ a, ∀ y ∈ b, prec key x y) : Srt key (a ++ b) := List.pairwise_append.2 ⟨ha, hb, h⟩
theorem srt_get {key : Nat → Int} {l : List Nat} (h : Srt key l) {i j : Nat} (hj : j < l.length) (hij : i < j) : prec key (l[i]'(by omega)) l[j] := (List.pairwise_iff_getElem.1 h) i j (by omega) hj hij
theorem srt_le {key : Nat → Int} {l : List Nat} (h : Srt key l) {i j : Nat} (hj : j < l.length) (hij : i ≤ j) {y : Nat} (hy : prec key l[j] y) : prec key (l[i]'(by omega)) y := by
  by_cases e : i = j
  · subst e; exact hy
  · exact prec_trans (srt_get h hj (by omega)) hy
theorem srt_ge {key : Nat → Int} {l : List Nat} (h : Srt key l) {i j : Nat} (hj : j < l.length) (hij : i ≤ j) {x : Nat} (hx : prec key x (l[i]'(by omega))) : prec key x l[j] := by
  by_cases e : i = j
  · subst e; exact hx
  · exact prec_trans hx (srt_get h hj (by omega))
theorem mem_take_get {l : List Nat} {k x : Nat} (h : x ∈ l.take k) : ∃ i, ∃ hi : i < l.length, i < k ∧ x = l[i] := by
  rw [List.mem_take_iff_getElem] at h
  obtain ⟨i, hi, rfl⟩ := h
  exact ⟨i, by omega, by omega, rfl⟩
theorem mem_drop_get {l : List Nat} {k x : Nat} (h : x ∈ l.drop k) : ∃ i, ∃ hi : i < l.length, k ≤ i ∧ x = l[i] := by
  obtain ⟨i, hi, rfl⟩ := List.mem_iff_getElem.1 h
  rw [List.length_drop] at hi
  exact ⟨k + i, by omega, by omega, by rw [List.getElem_drop]⟩
theorem srt_take {key : Nat → Int} {l : List Nat} (h : Srt key l) (k : Nat) : Srt key (l.take k) := h.sublist (List.take_sublist _ _)
theorem srt_drop {key : Nat → Int} {l : List Nat} (h : Srt key l) (k : Nat) : Srt key (l.drop k) := h.sublist (List.drop_sublist _ _)
theorem srt_parts {key : Nat → Int} {l : List Nat} (h : Srt key l) (k : Nat) : ∀ x ∈ l.take k, ∀ y ∈ l.drop k, prec key x y := by
  intro x hx y hy
  obtain ⟨i, hi, hik, rfl⟩ := mem_take_get hx
  obtain ⟨j, hj, hjk, rfl⟩ := mem_drop_get hy
  exact srt_get h hj (by omega)

/-- The halves of a symmetric merge. -/
theorem sym_split {key : Nat → Int} {A B : List Nat} (hA : Srt key A) (hB : Srt key B) (hX : ∀ x ∈ A, ∀ y ∈ B, x < y) {s h : Nat} (hs : s ≤ h)
    (h1 : s = 0 ∨ h - s = B.length ∨ ∃ (a : s - 1 < A.length) (b : h - s < B.length), ¬ key B[h - s] < key A[s - 1]) (h2 : s = A.length ∨ h = s ∨ ∃ (a : s < A.length) (b : h - 1 - s < B.length), key B[h - 1 - s] < key A[s]) :
    ∀ x ∈ A.take s ++ B.take (h - s), ∀ y ∈ A.drop s ++ B.drop (h - s), prec key x y := by
  intro x hx y hy
  rcases List.mem_append.1 hx with hx | hx <;> rcases List.mem_append.1 hy with hy | hy
  · exact srt_parts hA s x hx y hy
  · obtain ⟨i, hi, hik, rfl⟩ := mem_take_get hx
    obtain ⟨j, hj, hjk, rfl⟩ := mem_drop_get hy
    rcases h1 with e | e | ⟨a, b, hn⟩
    · omega
    · omega
    · have := prec_cross' (hX _ (List.getElem_mem a) _ (List.getElem_mem b)) hn
      exact srt_le hA a (by omega) (srt_ge hB hj (by omega) this)
  · obtain ⟨i, hi, hik, rfl⟩ := mem_take_get hx
    obtain ⟨j, hj, hjk, rfl⟩ := mem_drop_get hy
    rcases h2 with e | e | ⟨a, b, hn⟩
    · omega
    · omega
    · have := (prec_cross (hX _ (List.getElem_mem a) _ (List.getElem_mem b))).1 hn
      have hle : i ≤ h - 1 - s := by clear hn h1 this; omega
      exact srt_le hB b hle (srt_ge hA hj hjk this)
  · exact srt_parts hB (h - s) x hx y hy

/-- One put into a sorted row, from ahead of it. -/
theorem one_ahead {key : Nat → Int} {B : List Nat} {x i : Nat} (hB : Srt key B) (hX : ∀ y ∈ B, x < y) (h1 : i = 0 ∨ ∃ a : i - 1 < B.length, key B[i - 1] < key x) (h2 : i = B.length ∨ ∃ a : i < B.length, ¬ key B[i] < key x) :
    Srt key (B.take i ++ x :: B.drop i) ∧ (B.take i ++ x :: B.drop i).Perm (x :: B) := by
  have p1 : ∀ y ∈ B.take i, prec key y x := by
    intro y hy
    obtain ⟨j, hj, hjk, rfl⟩ := mem_take_get hy
    rcases h1 with e | ⟨a, hn⟩
    · omega
    · exact srt_le hB a (by omega) ((prec_cross (hX _ (List.getElem_mem a))).1 hn)
  have p2 : ∀ y ∈ B.drop i, prec key x y := by
    intro y hy
    obtain ⟨j, hj, hjk, rfl⟩ := mem_drop_get hy
    rcases h2 with e | ⟨a, hn⟩
    · omega
    · exact srt_ge hB hj (by omega) (prec_cross' (hX _ (List.getElem_mem a)) hn)
  refine ⟨srt_append (srt_take hB i) (List.pairwise_cons.2 ⟨p2, srt_drop hB i⟩) ?_, ?_⟩
  · intro u hu v hv
    rcases List.mem_cons.1 hv with rfl | hv
    · exact p1 u hu
    · exact srt_parts hB i u hu v hv
  · refine List.perm_middle.trans ?_
    rw [List.take_append_drop]
/-- One put into a sorted row, from behind it. -/
theorem one_behind {key : Nat → Int} {A : List Nat} {y i : Nat} (hA : Srt key A) (hX : ∀ x ∈ A, x < y) (h1 : i = 0 ∨ ∃ a : i - 1 < A.length, ¬ key y < key A[i - 1]) (h2 : i = A.length ∨ ∃ a : i < A.length, key y < key A[i]) :
    Srt key (A.take i ++ y :: A.drop i) ∧ (A.take i ++ y :: A.drop i).Perm (A ++ [y]) := by
  have p1 : ∀ x ∈ A.take i, prec key x y := by
    intro x hx
    obtain ⟨j, hj, hjk, rfl⟩ := mem_take_get hx
    rcases h1 with e | ⟨a, hn⟩
    · omega
    · exact srt_le hA a (by omega) (prec_cross' (hX _ (List.getElem_mem a)) hn)
  have p2 : ∀ x ∈ A.drop i, prec key y x := by
    intro x hx
    obtain ⟨j, hj, hjk, rfl⟩ := mem_drop_get hx
    rcases h2 with e | ⟨a, hn⟩
    · omega
    · exact srt_ge hA hj (by omega) ((prec_cross (hX _ (List.getElem_mem a))).1 hn)
  refine ⟨srt_append (srt_take hA i) (List.pairwise_cons.2 ⟨p2, srt_drop hA i⟩) ?_, ?_⟩
  · intro u hu v hv
    rcases List.mem_cons.1 hv with rfl | hv
    · exact p1 u hu
    · exact srt_parts hA i u hu v hv
  · refine List.perm_middle.trans ?_
    rw [List.take_append_drop]
    exact (List.perm_append_singleton y A).symm

/-- A row by blocks, each sorted, and of the same places as another row's. -/
inductive Good (key : Nat → Int) (bs : Nat) : List Nat → List Nat → Prop
  | last {D O : List Nat} : D.length < bs → Srt key D → D.Perm O → Good key bs D O
  | cons {D1 O1 D O : List Nat} : D1.length = bs → Srt key D1 → D1.Perm O1 → Good key bs D O → Good key bs (D1 ++ D) (O1 ++ O)
theorem Good.perm {key : Nat → Int} {bs : Nat} {D O : List Nat} (h : Good key bs D O) : D.Perm O := by
  induction h with
  | last _ _ h => exact h
  | cons _ _ h1 _ ih => exact h1.append ih
theorem Good.whole {key : Nat → Int} {bs : Nat} {D O : List Nat} (h : Good key bs D O) (hl : D.length ≤ bs) : Srt key D := by
  cases h with
  | last _ h _ => exact h
  | cons h1 h2 h3 h4 =>
    rename_i D1 O1 D2 O2
    rw [List.length_append, h1] at hl
    obtain rfl : D2 = [] := List.eq_nil_of_length_eq_zero (by omega)
    rw [List.append_nil]
    exact h2
/-- Whole blocks ahead. -/
inductive Full (key : Nat → Int) (bs : Nat) : List Nat → List Nat → Prop
  | nil : Full key bs [] []
  | snoc {D1 O1 D O : List Nat} : Full key bs D O → D1.length = bs → Srt key D1 → D1.Perm O1 → Full key bs (D ++ D1) (O ++ O1)
theorem Full.good {key : Nat → Int} {bs : Nat} {D O : List Nat} (h : Full key bs D O) : ∀ {D2 O2 : List Nat}, Good key bs D2 O2 → Good key bs (D ++ D2) (O ++ O2) := by
  induction h with
  | nil => intro D2 O2 h2; exact h2
  | snoc h1 h2 h3 h4 ih =>
    intro D2 O2 h
    rw [List.append_assoc, List.append_assoc]
    exact ih (.cons h2 h3 h4 h)
theorem Good.split {key : Nat → Int} {bs : Nat} {D O : List Nat} (h : Good key bs D O) (hl : bs ≤ D.length) : ∃ D1 O1 D2 O2, D = D1 ++ D2 ∧ O = O1 ++ O2 ∧ D1.length = bs ∧ Srt key D1 ∧ D1.Perm O1 ∧ Good key bs D2 O2 := by
  cases h with
  | last h1 _ _ => omega
  | cons h1 h2 h3 h4 => exact ⟨_, _, _, _, rfl, rfl, h1, h2, h3, h4⟩
end Go.Proofs.YtfaieldafoeaiaaDoor

/-
  How the program's Encode reckons deltas: by places that are marked, in the order of their code points.
-/
namespace Go.Proofs.YtfaieldafoeaiaaDoor

/-- The code points at the marked places. -/
def pick (M : Nat → Bool) (l : List Nat) : Nat → List Nat
  | 0 => []
  | n + 1 => pick M l n ++ if M n then [l.getD n 0] else []
theorem pick_length (M : Nat → Bool) (l : List Nat) (n : Nat) : (pick M l n).length = cnt M n := by
  induction n with
  | zero => rfl
  | succ n ih =>
    show (pick M l n ++ _).length = cnt M n + _
    rw [List.length_append, ih]
    split <;> rfl
theorem pick_before (M : Nat → Bool) (l : List Nat) (p : Nat) : ∀ n, n ≤ p → pick (mark M p) l n = pick M l n := by
  intro n
  induction n with
  | zero => intro _; rfl
  | succ n ih =>
    intro h
    show pick (mark M p) l n ++ (if (M n || n == p) = true then [l.getD n 0] else []) = pick M l n ++ _
    rw [ih (by omega), beq_eq_false_iff_ne.2 (show n ≠ p by omega), Bool.or_false]
theorem pick_mark (M : Nat → Bool) (l : List Nat) (p : Nat) (hp : M p = false) : ∀ n, p < n → pick (mark M p) l n = ins (pick M l n) (cnt M p) (l.getD p 0) := by
  intro n
  induction n with
  | zero => intro h; omega
  | succ n ih =>
    intro h
    show pick (mark M p) l n ++ (if (M n || n == p) = true then [l.getD n 0] else []) = ins (pick M l n ++ if M n = true then [l.getD n 0] else []) _ _
    by_cases e : n = p
    · subst e
      rw [pick_before M l n n (Nat.le_refl _), hp]
      unfold ins
      have hl := pick_length M l n
      simp [← hl]
    · rw [ih (by omega), beq_eq_false_iff_ne.2 e, Bool.or_false]
      have hl : cnt M p ≤ (pick M l n).length := by rw [pick_length]; exact cnt_mono M (by omega)
      unfold ins
      rw [List.take_append_of_le_length hl, List.drop_append_of_le_length hl]
      simp
theorem pick_all (M : Nat → Bool) (l : List Nat) : ∀ n, n ≤ l.length → (∀ i, i < n → M i = true) → pick M l n = l.take n := by
  intro n
  induction n with
  | zero => intro _ _; simp [pick]
  | succ n ih =>
    intro h ha
    show pick M l n ++ _ = _
    rw [ih (by omega) (fun i hi => ha i (by omega)), if_pos (ha n (by omega)), List.take_succ_eq_append_getElem (by omega), List.getD_eq_getElem?_getD, List.getElem?_eq_getElem (by omega)]
    rfl
/-- Those below 128 among the first k. -/
def bas (l : List Nat) (k : Nat) : Nat → Bool := fun i => decide (i < k) && decide (l.getD i 0 < 128)
theorem getD_at {l : List Nat} {k : Nat} (h : k < l.length) : l.getD k 0 = l[k] := by rw [List.getD_eq_getElem?_getD, List.getElem?_eq_getElem h]; rfl
theorem bas_small {l : List Nat} {k : Nat} (h : k < l.length) (hs : l[k] < 128) : mark (bas l k) k = bas l (k + 1) := by
  funext i
  unfold mark bas
  by_cases e : i = k
  · subst e; rw [getD_at h]; simp [hs]
  · have : (i < k + 1) ↔ i < k := by omega
    simp [e, this]
theorem bas_great {l : List Nat} {k : Nat} (h : k < l.length) (hs : ¬ l[k] < 128) : bas l k = bas l (k + 1) := by
  funext i
  unfold bas
  by_cases e : i = k
  · subst e; rw [getD_at h]; simp [hs]
  · have : (i < k + 1) ↔ i < k := by omega
    simp [this]
theorem bas_here (l : List Nat) (k : Nat) : bas l k k = false := by simp [bas]
theorem bas_none (l : List Nat) : bas l 0 = fun _ => false := by funext i; simp [bas]
theorem pick_bas (l : List Nat) (k : Nat) : ∀ n, n ≤ l.length → n ≤ k → pick (bas l k) l n = basicOf (l.take n) := by
  intro n
  induction n with
  | zero => intro _ _; rfl
  | succ n ih =>
    intro h hk
    show pick (bas l k) l n ++ _ = _
    rw [ih (by omega) (by omega), List.take_succ_eq_append_getElem (by omega), basicOf, basicOf, List.filter_append]
    congr 1
    unfold bas
    rw [getD_at (by omega)]
    by_cases hs : l[n] < 128
    · simp [hs, show n < k by omega]
    · simp [hs]
/-- The places of the others. -/
def oth (l : List Nat) (k : Nat) : List Nat := (List.range k).filter fun i => decide (128 ≤ l.getD i 0)
theorem oth_small {l : List Nat} {k : Nat} (h : k < l.length) (hs : l[k] < 128) : oth l (k + 1) = oth l k := by
  unfold oth
  rw [List.range_succ, List.filter_append]
  have : decide (128 ≤ l.getD k 0) = false := by rw [getD_at h]; exact decide_eq_false (by omega)
  rw [List.filter_cons, this]
  simp
theorem oth_great {l : List Nat} {k : Nat} (h : k < l.length) (hs : ¬ l[k] < 128) : oth l (k + 1) = oth l k ++ [k] := by
  unfold oth
  rw [List.range_succ, List.filter_append]
  have : decide (128 ≤ l.getD k 0) = true := by rw [getD_at h]; exact decide_eq_true (by omega)
  rw [List.filter_cons, this]
  simp
theorem oth_sorted (l : List Nat) (k : Nat) : (oth l k).Pairwise (· < ·) := List.Pairwise.filter _ List.pairwise_lt_range
theorem oth_mem {l : List Nat} {k x : Nat} : x ∈ oth l k ↔ x < k ∧ 128 ≤ l.getD x 0 := by simp [oth]
theorem oth_le (l : List Nat) (k : Nat) : (oth l k).length ≤ k := by
  have := List.length_filter_le (fun i => decide (128 ≤ l.getD i 0)) (List.range k)
  simpa [oth] using this

/-- A step's delta. -/
theorem step_delta {l : List Nat} {M : Nat → Bool} {N p n i d : Nat} (hp : p < N) (hM : M p = false) (hn : n ≤ l.getD p 0) (hi : i ≤ (l.getD p 0 - n) * (cnt M N + 1) + cnt M p) (hd : d = (l.getD p 0 - n) * (cnt M N + 1) + cnt M p - i) (rest : List Nat) :
    runD (d :: rest) (pick M l N) n i = runD rest (pick (mark M p) l N) (l.getD p 0) (cnt M p + 1) := by
  have hlen := pick_length M l N
  have hc : cnt M p ≤ cnt M N := cnt_mono M (by omega)
  have e : i + d = cnt M p + (cnt M N + 1) * (l.getD p 0 - n) := by rw [hd, Nat.mul_comm (cnt M N + 1)]; omega
  have e1 : (i + d) % (cnt M N + 1) = cnt M p := by rw [e, Nat.add_mul_mod_self_left, Nat.mod_eq_of_lt (by omega)]
  have e2 : (i + d) / (cnt M N + 1) = l.getD p 0 - n := by rw [e, Nat.add_mul_div_left _ _ (by omega), Nat.div_eq_of_lt (by omega)]; omega
  show runD rest (ins _ ((i + d) % ((pick M l N).length + 1)) (n + (i + d) / ((pick M l N).length + 1))) (n + (i + d) / ((pick M l N).length + 1)) ((i + d) % ((pick M l N).length + 1) + 1) = _
  rw [hlen, e1, e2, show n + (l.getD p 0 - n) = l.getD p 0 by omega, pick_mark M l p hM N hp]
/-- What is asked of those that are left. -/
def Left (l : List Nat) (M : Nat → Bool) (N n i : Nat) (D : List Nat) : Prop := ∀ p ∈ D, p < N ∧ M p = false ∧ n ≤ l.getD p 0 ∧ i ≤ (l.getD p 0 - n) * (cnt M N + 1) + cnt M p
theorem Left.next {l : List Nat} {M : Nat → Bool} {N n i p : Nat} {D : List Nat} (h : Left l M N n i (p :: D)) (hs : Srt (fun x => (l.getD x 0 : Int)) (p :: D)) : Left l (mark M p) N (l.getD p 0) (cnt M p + 1) D := by
  intro q hq
  obtain ⟨p1, p2, p3, p4⟩ := h p (List.mem_cons_self ..)
  obtain ⟨q1, q2, q3, q4⟩ := h q (List.mem_cons_of_mem _ hq)
  have hpq : prec (fun x => (l.getD x 0 : Int)) p q := (List.pairwise_cons.1 hs).1 q hq
  have hne : p ≠ q := fun e => prec_irrefl (e ▸ hpq)
  have hcN := cnt_mark M p p2 N
  have hcq := cnt_mark M p p2 q
  rw [if_pos p1] at hcN
  have hcp : cnt M p ≤ cnt M N := cnt_mono M (by omega)
  have hle : l.getD p 0 ≤ l.getD q 0 := by
    unfold prec at hpq
    simp only at hpq
    omega
  refine ⟨q1, ?_, hle, ?_⟩
  · show (M q || q == p) = false
    rw [q2, beq_eq_false_iff_ne.2 (Ne.symm hne)]; rfl
  · rw [hcN, hcq]
    by_cases e : l.getD p 0 = l.getD q 0
    · have : p < q := by unfold prec at hpq; simp only at hpq; omega
      rw [if_pos this]
      have := cnt_mono M (Nat.le_of_lt this)
      omega
    · have h1 : 1 ≤ l.getD q 0 - l.getD p 0 := by omega
      have h2 : 1 * (cnt M N + 1 + 1) ≤ (l.getD q 0 - l.getD p 0) * (cnt M N + 1 + 1) := Nat.mul_le_mul_right _ h1
      omega
/-- Where the deltas stand. -/
structure Run (l : List Nat) (M : Nat → Bool) (n i bias h : Nat) (T : List UInt8) : Prop where
  ex : ∃ ds, (∀ rest, tells (basicOf l).length (ds ++ rest) 72 (basicOf l).length = T ++ tells (basicOf l).length rest bias h) ∧ (∀ rest, (runD (ds ++ rest) (basicOf l) 128 0).1 = (runD rest (pick M l l.length) n i).1)
theorem Run.start (l : List Nat) : Run l (bas l l.length) 128 0 72 (basicOf l).length [] :=
  ⟨[], fun _ => rfl, fun rest => by rw [pick_bas l l.length l.length (Nat.le_refl _) (Nat.le_refl _), List.take_length]; rfl⟩
theorem Run.next {l : List Nat} {M : Nat → Bool} {n i bias h p d : Nat} {T : List UInt8} {D : List Nat} (hr : Run l M n i bias h T) (hl : Left l M l.length n i (p :: D)) (hd : d = (l.getD p 0 - n) * (cnt M l.length + 1) + cnt M p - i) :
    Run l (mark M p) (l.getD p 0) (cnt M p + 1) (adapt d (h + 1) (h == (basicOf l).length)) (h + 1) (T ++ tellK d bias 36) := by
  obtain ⟨ds, h1, h2⟩ := hr.ex
  obtain ⟨p1, p2, p3, p4⟩ := hl p (List.mem_cons_self ..)
  refine ⟨ds ++ [d], fun rest => ?_, fun rest => ?_⟩
  · rw [List.append_assoc, List.append_assoc]
    exact h1 (d :: rest)
  · rw [List.append_assoc]
    exact (h2 (d :: rest)).trans (by rw [step_delta p1 p2 p3 p4 hd])
theorem Run.done {l : List Nat} {M : Nat → Bool} {n i bias h : Nat} {T : List UInt8} (hr : Run l M n i bias h T) (hs : ∀ x ∈ l, sc x = true) (hM : ∀ i, i < l.length → M i = true) :
    (basicOf l).map UInt8.ofNat ++ (if (basicOf l).length = 0 then [] else [45]) ++ T = penc l := by
  obtain ⟨ds, h1, h2⟩ := hr.ex
  have a1 := h1 []
  have a2 := h2 []
  rw [List.append_nil] at a1 a2
  rw [pick_all M l l.length (Nat.le_refl _) hM, List.take_length] at a2
  have hr2 := run_deltas hs
  have hi : Inv (basicOf l) 128 0 := ⟨fun x hx => Nat.le_of_lt (basicOf_small l x hx), fun x hx => basicOf_small l x (List.mem_of_mem_drop hx)⟩
  have e : ds = deltas l l.length 128 0 (basicOf l).length := runD_inj hi _ _ (a2.trans hr2.symm)
  unfold penc
  rw [← e, a1]
  simp [tells]
theorem Left.start {l : List Nat} {D : List Nat} (hD : D.Perm (oth l l.length)) : Left l (bas l l.length) l.length 128 0 D := by
  intro p hp
  obtain ⟨h1, h2⟩ := oth_mem.1 (hD.subset hp)
  refine ⟨h1, ?_, h2, Nat.zero_le _⟩
  unfold bas
  rw [decide_eq_false (show ¬ l.getD p 0 < 128 by omega), Bool.and_false]
theorem cnt_bas (l : List Nat) : cnt (bas l l.length) l.length = (basicOf l).length := by
  rw [← pick_length (bas l l.length) l, pick_bas l l.length l.length (Nat.le_refl _) (Nat.le_refl _), List.take_length]
theorem bas_oth (l : List Nat) : ∀ k, k ≤ l.length → (basicOf (l.take k)).length + (oth l k).length = k := by
  intro k
  induction k with
  | zero => intro _; rfl
  | succ k ih =>
    intro h
    have := ih (by omega)
    by_cases hs : l[k] < 128
    · rw [oth_small (by omega) hs, List.take_succ_eq_append_getElem (by omega), basicOf, List.filter_append, List.length_append]
      simp only [basicOf] at this
      simp [hs]
      omega
    · rw [oth_great (by omega) hs, List.take_succ_eq_append_getElem (by omega), basicOf, List.filter_append, List.length_append, List.length_append]
      simp only [basicOf] at this
      simp [hs]
      omega
end Go.Proofs.YtfaieldafoeaiaaDoor

/-
  slices.SortStableFunc at the program's comparison: the row's words, the comparison, swapRange.
-/
namespace Go.Proofs.YtfaieldafoeaiaaDoor
open Go.RowKit

/-- The row of places in block blk, behind some steps. -/
structure RowAt (blk : Nat) (d : List Nat) (w0 W : World) : Prop where
  lt : blk < w0.heap.size
  kept : Kept [blk] w0 W
  cell : ∀ (i x : Nat), d[i]? = some x → W.cell? ⟨blk, i, none⟩ = some (.int .i64 (x : Int)) ∧ W.frozen? ⟨blk, i, none⟩ = false

theorem RowAt.drewN {blk : Nat} {d : List Nat} {w0 W : World} (h : RowAt blk d w0 W) (n : Nat) : RowAt blk d w0 (W.drewN n) := ⟨h.lt, h.kept.drewN n, h.cell⟩
theorem RowAt.c {blk : Nat} {d : List Nat} {w0 W : World} (h : RowAt blk d w0 W) {i x : Nat} (hi : d[i]? = some x) : W.cell? ⟨blk, i, none⟩ = some (.int .i64 (x : Int)) := (h.cell i x hi).1
theorem RowAt.f {blk : Nat} {d : List Nat} {w0 W : World} (h : RowAt blk d w0 W) {i x : Nat} (hi : d[i]? = some x) : W.frozen? ⟨blk, i, none⟩ = false := (h.cell i x hi).2
/-- One cell written. -/
theorem RowAt.put {blk : Nat} {d : List Nat} {w0 W : World} (h : RowAt blk d w0 W) {i : Nat} (hi : i < d.length) (y : Nat) : RowAt blk (d.set i y) w0 (W.setCell ⟨blk, i, none⟩ (.int .i64 (y : Int))) := by
  refine ⟨h.lt, h.kept.setCell (p := ⟨blk, i, none⟩) (.inl (by simp)) _, fun j x hj => ?_⟩
  rw [World.frozen?_setCell]
  have hjl : j < d.length := by have := (List.getElem?_eq_some_iff.1 hj).1; simpa using this
  refine ⟨?_, (h.cell j d[j] (List.getElem?_eq_getElem hjl)).2⟩
  by_cases e : i = j
  · subst e
    rw [List.getElem?_set_self hi] at hj
    cases hj
    exact World.cell?_setCell_same' _ _ _ (by rw [(h.cell i d[i] (List.getElem?_eq_getElem hi)).1]; rfl)
  · rw [List.getElem?_set_ne e] at hj
    rw [World.cell?_setCell_other _ _ _ _ (by intro e'; simp only [Addr.mk.injEq] at e'; omega)]
    exact (h.cell j x hj).1
theorem set_two (P Q S : List Nat) (x y : Nat) : (((P ++ x :: (Q ++ y :: S)).set P.length y).set (P.length + 1 + Q.length) x) = P ++ y :: (Q ++ x :: S) := by
  rw [List.set_append_right _ _ (Nat.le_refl _), Nat.sub_self, List.set_cons_zero, List.set_append_right _ _ (by omega), show P.length + 1 + Q.length - P.length = Q.length + 1 by omega, List.set_cons_succ, List.set_append_right _ _ (Nat.le_refl _), Nat.sub_self, List.set_cons_zero]
theorem set_two' (P Q S : List Nat) (x y : Nat) : (((P ++ x :: (Q ++ y :: S)).set (P.length + 1 + Q.length) x).set P.length y) = P ++ y :: (Q ++ x :: S) := by
  rw [List.set_comm _ _ (by omega)]; exact set_two P Q S x y
theorem get_one (P Q S : List Nat) (x y : Nat) : (P ++ x :: (Q ++ y :: S))[P.length]? = some x := by simp
theorem get_two (P Q S : List Nat) (x y : Nat) : (P ++ x :: (Q ++ y :: S))[P.length + 1 + Q.length]? = some y := by
  rw [List.getElem?_append_right (by omega), show P.length + 1 + Q.length - P.length = Q.length + 1 by omega, List.getElem?_cons_succ, List.getElem?_append_right (Nat.le_refl _)]; simp
/-- Two cells exchanged. -/
theorem RowAt.swap {blk : Nat} {P Q S : List Nat} {x y : Nat} {w0 W : World} {i j : Nat} (h : RowAt blk (P ++ x :: (Q ++ y :: S)) w0 W) (hi : i = P.length) (hj : j = P.length + 1 + Q.length) :
    RowAt blk (P ++ y :: (Q ++ x :: S)) w0 ((W.setCell ⟨blk, i, none⟩ (.int .i64 (y : Int))).setCell ⟨blk, j, none⟩ (.int .i64 (x : Int))).drew := by
  subst hi; subst hj
  have := (h.put (i := P.length) (by simp) y).put (i := P.length + 1 + Q.length) (by simp; omega) x
  rw [set_two] at this
  exact this.drewN 1
theorem RowAt.swap' {blk : Nat} {P Q S : List Nat} {x y : Nat} {w0 W : World} {i j : Nat} (h : RowAt blk (P ++ x :: (Q ++ y :: S)) w0 W) (hi : i = P.length) (hj : j = P.length + 1 + Q.length) :
    RowAt blk (P ++ y :: (Q ++ x :: S)) w0 ((W.setCell ⟨blk, j, none⟩ (.int .i64 (x : Int))).setCell ⟨blk, i, none⟩ (.int .i64 (y : Int))).drew := by
  subst hi; subst hj
  have := (h.put (i := P.length + 1 + Q.length) (by simp; omega) x).put (i := P.length) (by simp) y
  rw [set_two'] at this
  exact this.drewN 1
/-- What is asked of the comparison. -/
def CmpOk (key : Nat → Int) (N blk bl : Nat) (w0 : World) : Prop :=
  ∀ (W : World) (x y : Nat), Kept [blk] w0 W → x < N → y < N → Calls Tryd.prog 51 #[.int .i64 (x : Int), .int .i64 (y : Int), .pointer (some ⟨bl, 0, none⟩)] W fun e w' => e = .returned (.int .i64 (cmpI (key x) (key y))) ∧ ∃ q, w' = W.drewN q

theorem qcmp_q (a b : Int) (w : World) :
    Calls Tryd.prog 52 #[.int .i32 a, .int .i32 b] w fun e w' => e = .returned (.int .i64 (cmpI a b)) ∧ w' = w := (qcmp_any a b w).mono fun _ _ ⟨he, hw⟩ => ⟨he, hw.symm⟩
theorem keyAt (l : List Int) {x : Nat} (hx : x < l.length) : l[x]? = some (l.getD x 0) := by
  rw [List.getElem?_eq_getElem hx, List.getD_eq_getElem?_getD, List.getElem?_eq_getElem hx]; rfl
set_option maxHeartbeats 400000 in
theorem q2_any (bl : Nat) (A : Option Addr) (l : List Int) (cap : Nat) (blk : Nat) (w0 : World) (hbox : w0.cell? ⟨bl, 0, none⟩ = some (.slice A l.length cap)) (hbl : bl < w0.heap.size) (hne : bl ≠ blk) (hR : Runes w0 A l)
    (hA : ∀ (i : Nat) (c : Int), l[i]? = some c → ∃ b off, A = some ⟨b, off, none⟩ ∧ b ≠ blk) : CmpOk (fun x => l.getD x 0) l.length blk bl w0 := by
  intro W x y hk hx hy
  have hc : W.cell? ⟨bl, 0, none⟩ = some (.slice A l.length cap) := (hk.cell (p := ⟨bl, 0, none⟩) hbl (by simpa using hne)).trans hbox
  obtain ⟨b, off, rfl, hlt, hcx⟩ := hR x _ (keyAt l hx)
  obtain ⟨b', off', e, _, hcy⟩ := hR y _ (keyAt l hy)
  cases e
  obtain ⟨b'', off'', e'', hbn⟩ := hA x _ (keyAt l hx)
  cases e''
  have hcx' : W.cell? ⟨b, off + x, none⟩ = some (.int .i32 (l.getD x 0)) := (hk.cell (p := ⟨b, off + x, none⟩) hlt (by simpa using hbn)).trans hcx
  have hcy' : W.cell? ⟨b, off + y, none⟩ = some (.int .i32 (l.getD y 0)) := (hk.cell (p := ⟨b, off + y, none⟩) hlt (by simpa using hbn)).trans hcy
  obtain ⟨u, hu⟩ : ∃ u, l.getD x 0 = u := ⟨_, rfl⟩
  obtain ⟨v, hv⟩ : ∃ u, l.getD y 0 = u := ⟨_, rfl⟩
  simp only [hu, hv] at hcx' hcy' ⊢
  clear hcx hcy hR hbox hk hA hu hv
  have hxi : (x : Int) < (l.length : Int) := by omega
  have hyi : (y : Int) < (l.length : Int) := by omega
  go_enter Tryd.func51, Tryd.ntmps51
  go_wp2_with fail
  go_quiet ((go_at_call 52; exact Calls.quiet_of_same (qcmp_q _ _ _)))
  go_wp2
  go_ret
  exact ⟨rfl, _, rfl⟩

theorem mid_cons {A : List Nat} {i : Nat} (h : i < A.length) : A.drop i = A[i] :: A.drop (i + 1) := List.drop_eq_getElem_cons h
theorem take_app {A : List Nat} {i : Nat} (h : i < A.length) : A.take (i + 1) = A.take i ++ [A[i]] := List.take_succ_eq_append_getElem h

set_option maxHeartbeats 1000000 in
set_option maxRecDepth 100000 in
theorem swapRange_any (bl blk cap : Nat) (X A M B Y : List Nat) (a b n : Nat) (w0 w : World) (ha : a = X.length) (hA : A.length = n) (hB : B.length = n) (hb : b = a + n + M.length) (hl : X.length + A.length + M.length + B.length + Y.length ≤ 1000)
    (h : RowAt blk (X ++ A ++ M ++ B ++ Y) w0 w) :
    Calls Tryd.prog 87 #[.slice (some ⟨blk, 0, none⟩) (X.length + A.length + M.length + B.length + Y.length) cap, .int .i64 a, .int .i64 b, .int .i64 n, .func (.func 51) #[] #[.pointer (some ⟨bl, 0, none⟩)]] w fun e w' =>
      e = .returned (.tuple #[]) ∧ RowAt blk (X ++ B ++ M ++ A ++ Y) w0 w' := by
  have HH := Lib.hid h
  obtain ⟨N, hN⟩ : ∃ N, X.length + A.length + M.length + B.length + Y.length = N := ⟨_, rfl⟩
  have hbN : b + n ≤ N := by omega
  rw [hN]
  have hN1 : N ≤ 1000 := by omega
  have hab : a + n ≤ b := by omega
  clear h hl
  have HX : Hid (a = X.length ∧ A.length = n ∧ B.length = n ∧ b = a + n + M.length) := ⟨ha, hA, hB, hb⟩
  clear ha hA hB hb hN
  go_enter Tryd.func87, Tryd.ntmps87
  go_wp2
  go_loopw [10] (fun s wr => ∃ i : Nat, s = .int .i64 i ∧ i ≤ n ∧ RowAt blk (X ++ (B.take i ++ A.drop i) ++ M ++ (A.take i ++ B.drop i) ++ Y) w0 wr) (fun s _ => n - (intOf s).toNat)
  case atStart => exact ⟨0, rfl, by omega, by simpa using HH.out⟩
  case round =>
    obtain ⟨i, rfl, hi, hr⟩ := hrel
    by_cases hlt : i < n
    · obtain ⟨hx1, hx2, hx3, hx4⟩ := HX.out
      have e : X ++ (B.take i ++ A.drop i) ++ M ++ (A.take i ++ B.drop i) ++ Y = (X ++ B.take i) ++ A[i] :: ((A.drop (i + 1) ++ M ++ A.take i) ++ B[i] :: (B.drop (i + 1) ++ Y)) := by
        rw [mid_cons (A := A) (i := i) (by omega), mid_cons (A := B) (i := i) (by omega)]; simp only [List.append_assoc, List.cons_append]
      have e2 : X ++ (B.take (i + 1) ++ A.drop (i + 1)) ++ M ++ (A.take (i + 1) ++ B.drop (i + 1)) ++ Y = (X ++ B.take i) ++ B[i] :: ((A.drop (i + 1) ++ M ++ A.take i) ++ A[i] :: (B.drop (i + 1) ++ Y)) := by
        rw [take_app (A := A) (i := i) (by omega), take_app (A := B) (i := i) (by omega)]; simp only [List.append_assoc, List.cons_append, List.nil_append]
      have hi1 : a + i = (X ++ B.take i).length := by simp; omega
      have hj1 : b + i = (X ++ B.take i).length + 1 + (A.drop (i + 1) ++ M ++ A.take i).length := by simp; omega
      obtain ⟨x, hx⟩ : ∃ x, A[i] = x := ⟨_, rfl⟩
      obtain ⟨y, hy⟩ : ∃ y, B[i] = y := ⟨_, rfl⟩
      rw [hx, hy] at e e2
      rw [e] at hr
      have c1 := hr.c (i := a + i) (x := x) (by rw [hi1]; exact get_one _ _ _ _ _)
      have c2 := hr.c (i := b + i) (x := y) (by rw [hj1]; exact get_two _ _ _ _ _)
      have f1 := hr.f (i := a + i) (x := x) (by rw [hi1]; exact get_one _ _ _ _ _)
      have f2 := hr.f (i := b + i) (x := y) (by rw [hj1]; exact get_two _ _ _ _ _)
      have HS := Lib.hid (hr.swap hi1 hj1)
      rw [← e2] at HS
      clear hr e e2 hi1 hj1 hx hy hx1 hx2 hx3 hx4
      have c3 : (wr.setCell ⟨blk, a + i, none⟩ (.int .i64 (y : Int))).cell? ⟨blk, b + i, none⟩ = some (.int .i64 (y : Int)) := by
        rw [World.cell?_setCell_other _ _ _ _ (by intro e'; simp only [Addr.mk.injEq] at e'; omega)]; exact c2
      go_wp2_with fail
      go_big_region
      clear c1 c2 c3 f1 f2
      generalize ((wr.setCell ⟨blk, a + i, none⟩ (.int .i64 (y : Int))).setCell ⟨blk, b + i, none⟩ (.int .i64 (x : Int))).drew = w3 at HS ⊢
      go_wp2
      go_roundw
      case rel => exact ⟨i + 1, by go_num, by omega, HS.out⟩
      case measure => simp [intOf]; omega
    · have HR : Hid (RowAt blk (X ++ B ++ M ++ A ++ Y) w0 wr) := by
        obtain ⟨hx1, hx2, hx3, hx4⟩ := HX.out
        obtain rfl : i = n := by omega
        show RowAt blk (X ++ B ++ M ++ A ++ Y) w0 wr
        rw [List.take_of_length_le (by omega), List.take_of_length_le (by omega), List.drop_eq_nil_of_le (by omega), List.drop_eq_nil_of_le (by omega), List.append_nil, List.append_nil] at hr
        exact hr
      clear hr HX HH
      go_wp2
      go_end0
      exact ⟨rfl, HR.out⟩
end Go.Proofs.YtfaieldafoeaiaaDoor

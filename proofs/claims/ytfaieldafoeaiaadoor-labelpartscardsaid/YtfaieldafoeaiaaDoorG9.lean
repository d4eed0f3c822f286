/-
  In this text, one behind the other: Lift, PLift, KLift, VLift, DLift, WLift.
-/
import Derived.ProofKit
import Derived.OpenShut
import Derived.ShutString
import Derived.ChangeSame
import Derived.ChangeVars
import Derived.ChangeOld
import Derived.ChangeSlices
import Derived.ChangeMaps5
import Derived.Carry
import Derived.JoinedOf
import Derived.RowKit
import Derived.Lib.LaidU8
import Derived.Lay
import Derived.LaidLaws
import Derived.LaidHandle
import Derived.RowKitTokens
import Derived.Stop.Joined
import Derived.SliceStrings
import Derived.Test.YtfaieldafoeaiaaDoorG1
import Derived.Test.YtfaieldafoeaiaaDoorG2
/-
  From the rows' conditions to what the walks ask: a slice of runes opened.
-/
namespace Go.Proofs.YtfaieldafoeaiaaDoor
open Go.ChangeShapes Go.WideShapes Go.ChangeAt Go.RowKit

theorem Tryd.own : ownKnob Tryd.prog.godebug = none := by kernel_rfl
theorem Tryd.laidOut : laidOutB Tryd.prog = true := by kernel_rfl

theorem runes_of_trod {H : Type} {enc : TypeId × Value → H} {W : World} {A : Option Addr} {len cap : Nat} {d : DataW H} {p : List MemPlace}
    (h : DataW.Trod enc Tryd.prog W 0 (fun _ => true) true 22 (.slice A len cap) d p) : ∃ l : List Int, len = l.length ∧ l.length ≤ maxLen ∧ Runes W A l := by
  obtain ⟨fuel, hf⟩ := h
  rcases open_ints Tryd.underlying22 Tryd.underlying21 (by kernel_rfl) hf with ⟨hcs, _⟩ | ⟨a, l, c, zs, hcs, _, hl, hm, hz, _, hcell, _⟩
  · simp [Value.cells] at hcs
    obtain ⟨rfl, rfl, rfl⟩ := hcs
    exact ⟨[], rfl, Nat.zero_le _, fun i s hs => by simp at hs⟩
  · simp [Value.cells] at hcs
    obtain ⟨rfl, rfl, rfl⟩ := hcs
    have hz' : zs.length = cap := by simpa using hz
    refine ⟨zs.take len, by simp; omega, by simp; omega, fun i s hs => ?_⟩
    have hi : i < (zs.take len).length := (List.getElem?_eq_some_iff.1 hs).1
    simp at hi
    have h0 := hcell 0 (by omega)
    have hi' := hcell i (by omega)
    obtain ⟨b, off, spot⟩ := a
    have hspot : spot = none := by simpa [Addr.add] using World.cell?_spot h0
    subst hspot
    rw [add_plain] at hi'
    refine ⟨b, off, rfl, ?_, ?_⟩
    · rcases Nat.lt_or_ge b W.heap.size with h | h
      · exact h
      · simp [World.cell?, Array.getElem?_eq_none h] at hi'
    · rw [hi']
      rw [List.getElem?_take, if_pos (by omega)] at hs
      rw [List.getD_eq_getElem?_getD, hs]
      rfl
end Go.Proofs.YtfaieldafoeaiaaDoor

/-
  From the rows' conditions to what the walks ask: a slice's length and capacity.
-/
namespace Go.Proofs.YtfaieldafoeaiaaDoor
open Go.ChangeShapes Go.WideShapes Go.ChangeAt Go.RowKit

theorem cap_of_trod {H : Type} {enc : TypeId × Value → H} {W : World} {A : Option Addr} {len cap : Nat} {d : DataW H} {p : List MemPlace}
    (h : DataW.Trod enc Tryd.prog W 0 (fun _ => true) true 22 (.slice A len cap) d p) : len ≤ cap := by
  obtain ⟨fuel, hf⟩ := h
  rcases open_ints Tryd.underlying22 Tryd.underlying21 (by kernel_rfl) hf with ⟨hcs, _⟩ | ⟨a, l, c, zs, hcs, _, hl, hm, hz, _, hcell, _⟩
  · simp [Value.cells] at hcs
    obtain ⟨rfl, rfl, rfl⟩ := hcs
    exact Nat.le_refl _
  · simp [Value.cells] at hcs
    obtain ⟨rfl, rfl, rfl⟩ := hcs
    omega
theorem rng_of_trod {H : Type} {enc : TypeId × Value → H} {W : World} {A : Option Addr} {l : List Int} {cap : Nat} {d : DataW H} {p : List MemPlace}
    (h : DataW.Trod enc Tryd.prog W 0 (fun _ => true) true 22 (.slice A l.length cap) d p) (hr : Runes W A l) : ∀ c ∈ l, -2147483648 ≤ c ∧ c < 2147483648 := by
  intro c hc
  obtain ⟨i, hi, rfl⟩ := List.mem_iff_getElem.1 hc
  obtain ⟨b, off, rfl, _, hcell0⟩ := hr i l[i] (List.getElem?_eq_getElem hi)
  obtain ⟨fuel, hf⟩ := h
  rcases open_ints Tryd.underlying22 Tryd.underlying21 (by kernel_rfl) hf with ⟨hcs, _⟩ | ⟨a, len, c2, zs, hcs, _, hl, hm, hz, _, hcell, hwf⟩
  · simp [Value.cells] at hcs
  · simp [Value.cells] at hcs
    obtain ⟨rfl, rfl, rfl⟩ := hcs
    have hz' : zs.length = cap := by simpa using hz
    have hc2 := hcell i (by omega)
    rw [add_plain, hcell0] at hc2
    have e : l[i] = zs.getD i 0 := by simpa using hc2
    have hmem : zs.getD i 0 ∈ zs := by
      rw [List.getD_eq_getElem?_getD, List.getElem?_eq_getElem (by omega)]
      exact List.getElem_mem _
    have := bounds_i32 (hwf _ hmem)
    rw [e]
    omega
end Go.Proofs.YtfaieldafoeaiaaDoor

/-
  From the rows' conditions to what the walks ask: a slice's length and capacity; nil has none.
-/
namespace Go.Proofs.YtfaieldafoeaiaaDoor
open Go.ChangeShapes Go.WideShapes Go.ChangeAt Go.RowKit

theorem capn_of_trod {H : Type} {enc : TypeId × Value → H} {W : World} {A : Option Addr} {len cap : Nat} {d : DataW H} {p : List MemPlace}
    (h : DataW.Trod enc Tryd.prog W 0 (fun _ => true) true 22 (.slice A len cap) d p) : len ≤ cap ∧ (A = none → cap = 0) := by
  obtain ⟨fuel, hf⟩ := h
  rcases open_ints Tryd.underlying22 Tryd.underlying21 (by kernel_rfl) hf with ⟨hcs, _⟩ | ⟨a, l, c, zs, hcs, _, hl, hm, hz, _, hcell, _⟩
  · simp [Value.cells] at hcs
    obtain ⟨rfl, rfl, rfl⟩ := hcs
    exact ⟨Nat.le_refl _, fun _ => rfl⟩
  · simp [Value.cells] at hcs
    obtain ⟨rfl, rfl, rfl⟩ := hcs
    exact ⟨by omega, fun e => by cases e⟩
end Go.Proofs.YtfaieldafoeaiaaDoor

/-
  From a tied card's conditions to what the walks ask: the tables' cells; a world that meets the list.
-/
namespace Go.Proofs.YtfaieldafoeaiaaDoor
open Go.ChangeShapes Go.WideShapes Go.ChangeAt Go.RowKit Go.Lib

theorem Tryd.n_spans : Tryd.prog.globalNamed "gatepost/fold.spans" = some 4 := by kernel_rfl
theorem Tryd.n_letters : Tryd.prog.globalNamed "gatepost/fold.letters" = some 2 := by kernel_rfl
theorem Tryd.n_marks : Tryd.prog.globalNamed "gatepost/fold.marks" = some 1 := by kernel_rfl
theorem Tryd.n_made : Tryd.prog.globalNamed "gatepost/fold.made" = some 3 := by kernel_rfl
theorem Tryd.y_spans : (Tryd.prog.globals[4]?).map (·.type) = some 129 := by kernel_rfl
theorem Tryd.y_letters : (Tryd.prog.globals[2]?).map (·.type) = some 127 := by kernel_rfl
theorem Tryd.y_marks : (Tryd.prog.globals[1]?).map (·.type) = some 126 := by kernel_rfl
theorem Tryd.y_made : (Tryd.prog.globals[3]?).map (·.type) = some 128 := by kernel_rfl
theorem Tryd.c_rune : Tryd.prog.cellsOf 21 = 1 := by kernel_rfl
theorem Tryd.c_span : Tryd.prog.cellsOf 99 = 4 := by kernel_rfl
theorem Tryd.c_seven : Tryd.prog.cellsOf 126 = 7 := by kernel_rfl
theorem Tryd.c_eight : Tryd.prog.cellsOf 127 = 8 := by kernel_rfl

def spanDatum (r : Int × Int × Int × Int) : DataW Unit := .agg [.lit (.int .i32 r.1), .lit (.int .i32 r.2.1), .lit (.int .i64 r.2.2.1), .lit (.int .i32 r.2.2.2)]
theorem laid_spans_eq : (Rows.laid_gatepost_fold_spans : DataW Unit) = .agg (spanTab.map spanDatum) := rfl
theorem laid_letters_eq : (Rows.laid_gatepost_fold_letters : DataW Unit) = tabData .i32 letterTab := rfl
theorem laid_marks_eq : (Rows.laid_gatepost_fold_marks : DataW Unit) = tabData .i32 markTab := rfl
theorem laid_made_eq : (Rows.laid_gatepost_fold_made : DataW Unit) = .agg (madeTab.map (tabData .i32)) := rfl

/-- A span's cells. -/
theorem cells_of_span {H : Type} {enc : TypeId × Value → H} {w : World} {base : Nat} {sp : Nat → Bool} {held : Bool} {fuel : Nat} {cs : List Value} {a b k d : Int} {p : List MemPlace}
    (h : DataW.trod enc Tryd.prog w base sp held fuel 99 cs = some (.agg [.lit (.int .i32 a), .lit (.int .i32 b), .lit (.int .i64 k), .lit (.int .i32 d)], p)) :
    cs[0]? = some (.int .i32 a) ∧ cs[1]? = some (.int .i32 b) ∧ cs[2]? = some (.int .i64 k) ∧ cs[3]? = some (.int .i32 d) := by
  obtain ⟨xs, n, rfl, hx, hl, hxl, hall⟩ := DataW.trod_struct Tryd.underlying99 h
  have hxs : xs.map (·.1) = [.lit (.int .i32 a), .lit (.int .i32 b), .lit (.int .i64 k), .lit (.int .i32 d)] := by
    have := congrArg Prod.fst hx
    simpa using this.symm
  match xs, hxs with
  | [x0, x1, x2, x3], hxs =>
    simp only [List.map_cons, List.map_nil, List.cons.injEq, and_true] at hxs
    obtain ⟨e0, e1, e2, e3⟩ := hxs
    have h0 := hall 0 _ rfl
    have h1 := hall 1 _ rfl
    have h2 := hall 2 _ rfl
    have h3 := hall 3 _ rfl
    simp only [List.getElem?_cons_zero, List.getElem?_cons_succ] at h0 h1 h2 h3
    obtain ⟨z0, g0, f0, _⟩ := DataW.trod_int Tryd.underlying21 h0
    obtain ⟨z1, g1, f1, _⟩ := DataW.trod_int Tryd.underlying21 h1
    obtain ⟨z2, g2, f2, _⟩ := DataW.trod_int Tryd.underlying3 h2
    obtain ⟨z3, g3, f3, _⟩ := DataW.trod_int Tryd.underlying21 h3
    subst f0 f1 f2 f3
    simp only [DataW.lit.injEq, Lit.int.injEq, true_and] at e0 e1 e2 e3
    subst e0 e1 e2 e3
    have q0 := congrArg (·[0]?) g0
    have q1 := congrArg (·[0]?) g1
    have q2 := congrArg (·[0]?) g2
    have q3 := congrArg (·[0]?) g3
    simp [List.getElem?_take, List.getElem?_drop] at q0 q1 q2 q3
    exact ⟨q0.2, q1.2, q2.2, q3.2⟩

theorem vars_of_reads {w : World} (h0 : VarReads Tryd.prog w "gatepost/fold.spans" Rows.laid_gatepost_fold_spans) (h1 : VarReads Tryd.prog w "gatepost/fold.letters" Rows.laid_gatepost_fold_letters)
    (h2 : VarReads Tryd.prog w "gatepost/fold.marks" Rows.laid_gatepost_fold_marks) (h3 : VarReads Tryd.prog w "gatepost/fold.made" Rows.laid_gatepost_fold_made) : Vars w := by
  refine ⟨fun i hi => ?_, fun i hi => ?_, fun i hi => ?_, fun i j hi hj => ?_⟩
  · obtain ⟨g, t, cs, fuel, p, hg, hty, hvar, hd⟩ := h0
    obtain rfl := Option.some.inj (Tryd.n_spans.symm.trans hg)
    obtain rfl := Option.some.inj (Tryd.y_spans.symm.trans hty)
    rw [laid_spans_eq] at hd
    obtain ⟨fuel', d, q, hdi, he⟩ := array_elem Tryd.underlying129 hd i hi
    have hr : spanTab[i]? = some (spanAt i) := by
      unfold spanAt
      rw [List.getD_eq_getElem?_getD]
      have : i < spanTab.length := hi
      rw [List.getElem?_eq_getElem this]; rfl
    rw [List.getElem?_map, hr, Option.map_some] at hdi
    obtain rfl := Option.some.inj hdi
    rw [Tryd.c_span] at he
    obtain ⟨a, b, c, d⟩ := cells_of_span he
    simp only [List.getElem?_take, List.getElem?_drop] at a b c d
    refine ⟨?_, ?_, ?_, ?_⟩
    · rw [World.var?_cell hg hvar (i * 4), ← Array.getElem?_toList]; simpa using a
    · rw [World.var?_cell hg hvar (i * 4 + 1), ← Array.getElem?_toList]; simpa using b
    · rw [World.var?_cell hg hvar (i * 4 + 2), ← Array.getElem?_toList]; simpa using c
    · rw [World.var?_cell hg hvar (i * 4 + 3), ← Array.getElem?_toList]; simpa using d
  · obtain ⟨g, t, cs, fuel, p, hg, hty, hvar, hd⟩ := h1
    obtain rfl := Option.some.inj (Tryd.n_letters.symm.trans hg)
    obtain rfl := Option.some.inj (Tryd.y_letters.symm.trans hty)
    rw [laid_letters_eq] at hd
    have hcs := cells_of_tab Tryd.underlying127 Tryd.underlying21 Tryd.c_rune Tryd.c_eight hd
    rw [World.var?_cell hg hvar i, ← Array.getElem?_toList, hcs, List.getElem?_map, List.getD_eq_getElem?_getD, List.getElem?_eq_getElem (show i < letterTab.length from hi)]; rfl
  · obtain ⟨g, t, cs, fuel, p, hg, hty, hvar, hd⟩ := h2
    obtain rfl := Option.some.inj (Tryd.n_marks.symm.trans hg)
    obtain rfl := Option.some.inj (Tryd.y_marks.symm.trans hty)
    rw [laid_marks_eq] at hd
    have hcs := cells_of_tab Tryd.underlying126 Tryd.underlying21 Tryd.c_rune Tryd.c_seven hd
    rw [World.var?_cell hg hvar i, ← Array.getElem?_toList, hcs, List.getElem?_map, List.getD_eq_getElem?_getD, List.getElem?_eq_getElem (show i < markTab.length from hi)]; rfl
  · obtain ⟨g, t, cs, fuel, p, hg, hty, hvar, hd⟩ := h3
    obtain rfl := Option.some.inj (Tryd.n_made.symm.trans hg)
    obtain rfl := Option.some.inj (Tryd.y_made.symm.trans hty)
    rw [laid_made_eq] at hd
    obtain ⟨fuel', d, q, hdi, he⟩ := array_elem Tryd.underlying128 hd i hi
    have hr : madeTab[i]? = some (madeTab.getD i []) := by
      rw [List.getD_eq_getElem?_getD]
      have : i < madeTab.length := hi
      rw [List.getElem?_eq_getElem this]; rfl
    rw [List.getElem?_map, hr, Option.map_some] at hdi
    obtain rfl := Option.some.inj hdi
    rw [Tryd.c_seven] at he
    have hcs := cells_of_tab Tryd.underlying126 Tryd.underlying21 Tryd.c_rune Tryd.c_seven he
    have hlen : ∀ k, k < 8 → (madeTab.getD k []).length = 7 := by decide
    have q := congrArg (·[j]?) hcs
    simp only [List.getElem?_take, List.getElem?_drop, List.getElem?_map] at q
    rw [World.var?_cell hg hvar (i * 7 + j), ← Array.getElem?_toList]
    rw [if_pos hj] at q
    rw [q, List.getElem?_eq_getElem (by rw [hlen i hi]; exact hj)]
    unfold madeAt
    rw [List.getD_eq_getElem?_getD (l := madeTab.getD i []), List.getElem?_eq_getElem (by rw [hlen i hi]; exact hj)]
    rfl

def laidFour : List (String × DataW Unit) := [("gatepost/fold.spans", Rows.laid_gatepost_fold_spans), ("gatepost/fold.letters", Rows.laid_gatepost_fold_letters), ("gatepost/fold.marks", Rows.laid_gatepost_fold_marks), ("gatepost/fold.made", Rows.laid_gatepost_fold_made)]
theorem vars_of_met {W : World} (h : laidMet Tryd.prog laidFour W) : Vars W :=
  vars_of_reads (laidMet.reads h (.head _)) (laidMet.reads h (.tail _ (.head _))) (laidMet.reads h (.tail _ (.tail _ (.head _)))) (laidMet.reads h (.tail _ (.tail _ (.tail _ (.head _)))))
theorem vars_of_laid {W : World} (h : laidMetH Tryd.prog laidFour W) : Vars W := vars_of_met h

noncomputable def fourWorld (os : Os) : World := World.laidAll Tryd.prog os laidFour
theorem fourWorld_met (os : Os) (args : Array Value) : laidMetH Tryd.prog laidFour ((fourWorld os).forCall (fun _ _ => 0) ⟨#[], args, []⟩).memory :=
  laidMet_laidAll args (by kernel_rfl) (by kernel_rfl)
end Go.Proofs.YtfaieldafoeaiaaDoor

/-
  From a tied card's conditions to what the walks ask: the listed variable's cell; a world that meets the list.
-/
namespace Go.Proofs.YtfaieldafoeaiaaDoor
open Go.ChangeShapes Go.WideShapes Go.ChangeAt Go.RowKit

theorem Tryd.et : Tryd.prog.globalNamed "errors.errorType" = some 0 := by kernel_rfl
theorem Tryd.oneRow : ((List.range 170).filter fun t => Tryd.prog.rowNamed t [101, 114, 114, 111, 114]) = [25] := by kernel_rfl
theorem Tryd.size : Tryd.prog.types.size = 170 := by kernel_rfl

def laidList : List (String × DataW Unit) := [("errors.errorType", Rows.laid_errors_errorType)]

theorem ready_of_laid {W : World} (h : laidMetH Tryd.prog laidList W) : Ready W := by
  have h' : laidMet Tryd.prog [] W ∧ handlesMet Tryd.prog laidList W := h
  obtain ⟨name, u, ty, e1, e2, e3, e4, e5⟩ := h'.2 _ (List.mem_singleton.2 rfl)
  have en : name = [101, 114, 114, 111, 114] := (Option.some.inj e1).symm
  subst en
  have e6 := e2.symm.trans (show _ = some 87 by kernel_rfl)
  obtain rfl := Option.some.inj e6
  have hm : ty ∈ (List.range 170).filter fun t => Tryd.prog.rowNamed t [101, 114, 114, 111, 114] := List.mem_filter.2 ⟨List.mem_range.2 (by rw [← Tryd.size]; exact e3), e4⟩
  rw [Tryd.oneRow] at hm
  obtain rfl := List.mem_singleton.1 hm
  have hh : typeHandle Tryd.prog 25 = .pointer (some ⟨6, 25, none⟩) := by kernel_rfl
  rw [hh] at e5
  unfold Ready
  simpa using World.var?_cell Tryd.et e5 0

/-- A world that meets the list: the settled one, the variable's cell laid. -/
noncomputable def laidWorld (os : Os) : World :=
  { World.holding Tryd.prog os ⟨#[], #[], []⟩ with heap := (World.holding Tryd.prog os ⟨#[], #[], []⟩).heap.modify 0 fun
      | .cells _ t frozen => .cells #[.iface 87 (.agg #[.pointer (some ⟨6, 25, none⟩)])] t frozen
      | o => o }
theorem laidWorld_met (os : Os) (args : Array Value) : laidMetH Tryd.prog laidList ((laidWorld os).forCall (fun _ _ => 0) ⟨#[], args, []⟩).memory :=
  laidMetH_of_parts (laidMet_nil _ _) (by kernel_rfl)

end Go.Proofs.YtfaieldafoeaiaaDoor

/-
  From a tied card's conditions to what the walks ask, where errors.errorType is listed too.
-/
namespace Go.Proofs.YtfaieldafoeaiaaDoor
open Go.ChangeShapes Go.WideShapes Go.ChangeAt Go.RowKit Go.Lib

def laidFive : List (String × DataW Unit) := ("errors.errorType", Rows.laid_errors_errorType) :: laidFour
theorem ready_of_five {W : World} (h : laidMetH Tryd.prog laidFive W) : Ready W ∧ Vars W := by
  have h' : laidMet Tryd.prog laidFour W ∧ handlesMet Tryd.prog laidList W := h
  refine ⟨ready_of_laid (show laidMetH Tryd.prog laidList W from ⟨laidMet_nil _ _, h'.2⟩), vars_of_met h'.1⟩
/-- A world that meets the list: the handle's cell laid, then the tables. -/
noncomputable def fiveWorld (os : Os) : World := (laidWorld os).layVars Tryd.prog laidFour
theorem fiveWorld_four (os : Os) (args : Array Value) : laidMet Tryd.prog laidFour ((fiveWorld os).forCall (fun _ _ => 0) ⟨#[], args, []⟩).memory := by
  have e1 : (laidFour.filter fun x => (laidFour.map (·.1)).contains x.1) = laidFour := List.filter_eq_self.2 fun x hx => List.contains_iff_mem.2 (List.mem_map.2 ⟨x, hx, rfl⟩)
  have e2 : (laidFour.filter fun x => !(laidFour.map (·.1)).contains x.1) = [] := List.filter_eq_nil_iff.2 fun x hx => by rw [List.contains_iff_mem.2 (List.mem_map.2 ⟨x, hx, rfl⟩)]; simp
  have h : laidMet Tryd.prog laidFour (fiveWorld os) := laidMet_layVars (w0 := laidWorld os) (laidFour.map (·.1)) [] (by rw [e1]; rfl) (by rw [e1]; kernel_rfl) (by rw [e1]; kernel_rfl) (by rw [e2]; exact LaidIn.none)
  exact h.of_heap (by simp [World.memory, World.forCall, Input.heap])
theorem fiveWorld_met (os : Os) (args : Array Value) : laidMetH Tryd.prog laidFive ((fiveWorld os).forCall (fun _ _ => 0) ⟨#[], args, []⟩).memory :=
  laidMetH_of_parts (show laidMet Tryd.prog laidFour _ from fiveWorld_four os args) (by kernel_rfl)
end Go.Proofs.YtfaieldafoeaiaaDoor

/-
  In this text, one behind the other: Lift, ALift, SixLift, DLift, SixDLift.
-/
import Derived.ProofKit
import Derived.OpenShut
import Derived.ShutString
import Derived.ChangeSame
import Derived.ChangeVars
import Derived.ChangeOld
import Derived.ChangeSlices
import Derived.ChangeMaps5
import Derived.Carry
import Derived.JoinedOf
import Derived.RowKit
import Derived.WideKeyPair
import Derived.Shelf.Vars
import Derived.Lib.LaidU8
import Derived.Lay
import Derived.HandedShaped
import Derived.RowKitTokens
import Derived.LaidLaws
import Derived.LaidHandle
import Derived.SliceStrings
import Derived.Stop.Joined
import Derived.Test.YtfodkkdggajjaaaGreatDoorG2
import Derived.Test.YtfodkkdggajjaaaGreatDoorG3
/-
  From the rows' conditions to what the walks ask: a slice of runes opened.
-/
namespace Go.Proofs.YtfodkkdggajjaaaGreatDoor
open Go.ChangeShapes Go.WideShapes Go.ChangeAt Go.RowKit

theorem Tryz.own : ownKnob Tryz.prog.godebug = none := by kernel_rfl
theorem Tryz.laidOut : laidOutB Tryz.prog = true := by kernel_rfl

end Go.Proofs.YtfodkkdggajjaaaGreatDoor

/-
  Arrays of letters and of bytes as a law's arguments: opened and shut.
-/
namespace Go.Proofs.YtfodkkdggajjaaaGreatDoor
open Go.ChangeShapes Go.WideShapes Go.ChangeAt Go.RowKit

set_option maxRecDepth 100000 in
theorem letters_arr {W : World} {r : Reach} {b0 : Nat} {v : Value} (h : Value.okWide Tryz.prog W r b0 24 v) : ∃ xs : Array Value, v = .agg xs ∧ xs.size = 8 := by
  simp only [Value.okWide, Tryz.underlying24] at h
  obtain ⟨cs, h1, h2, _⟩ := h
  exact ⟨cs, h1, by rw [h2]; kernel_rfl⟩
set_option maxRecDepth 100000 in
theorem letters_cells : Tryz.prog.cellsOf 24 = 8 := by kernel_rfl
set_option maxRecDepth 100000 in
theorem letters_cell : Tryz.prog.cellsOf 23 = 1 := by kernel_rfl
set_option maxRecDepth 100000 in
theorem open_letters {H : Type} {enc : TypeId × Value → H} {W : World} {base : Nat} {sp : Nat → Bool} {held : Bool} {r : Reach} {b0 : Nat} {v : Value} {d : DataW H} {ps : List MemPlace} (hval : Value.okWide Tryz.prog W r b0 24 v) (hd : DataW.Trod enc Tryz.prog W base sp held 24 v d ps) :
    ∃ a0 a1 a2 a3 a4 a5 a6 a7 : Int, v = .agg #[.int .u16 a0, .int .u16 a1, .int .u16 a2, .int .u16 a3, .int .u16 a4, .int .u16 a5, .int .u16 a6, .int .u16 a7] ∧ d = .agg [.lit (.int .u16 a0), .lit (.int .u16 a1), .lit (.int .u16 a2), .lit (.int .u16 a3), .lit (.int .u16 a4), .lit (.int .u16 a5), .lit (.int .u16 a6), .lit (.int .u16 a7)] ∧ ps = [] ∧ (Lit.int .u16 a0).wf = true ∧ (Lit.int .u16 a1).wf = true ∧ (Lit.int .u16 a2).wf = true ∧ (Lit.int .u16 a3).wf = true ∧ (Lit.int .u16 a4).wf = true ∧ (Lit.int .u16 a5).wf = true ∧ (Lit.int .u16 a6).wf = true ∧ (Lit.int .u16 a7).wf = true := by
  obtain ⟨xs, rfl, hn⟩ := letters_arr hval
  obtain ⟨c0, c1, c2, c3, c4, c5, c6, c7, rfl⟩ : ∃ c0 c1 c2 c3 c4 c5 c6 c7 : Value, xs = #[c0, c1, c2, c3, c4, c5, c6, c7] := by
    obtain ⟨l⟩ := xs
    match l, hn with
    | [c0, c1, c2, c3, c4, c5, c6, c7], _ => exact ⟨c0, c1, c2, c3, c4, c5, c6, c7, rfl⟩
  obtain ⟨fuel, hf⟩ := hd
  cases fuel with
  | zero => simp [DataW.trod] at hf
  | succ m =>
    rw [DataW.trod_step] at hf
    unfold DataW.trodStep at hf
    simp only [Tryz.underlying24, Value.cells] at hf
    rw [if_pos (by rw [letters_cells]; rfl)] at hf
    simp only [Option.map_eq_some_iff] at hf
    obtain ⟨xs, hx, e1⟩ := hf
    rw [show List.range 8 = [0, 1, 2, 3, 4, 5, 6, 7] from rfl] at hx
    simp only [List.mapM_cons, List.mapM_nil, bind, Option.bind_eq_some_iff, pure, Option.some.injEq, letters_cell] at hx
    obtain ⟨y0, h0, _, ⟨y1, h1, _, ⟨y2, h2, _, ⟨y3, h3, _, ⟨y4, h4, _, ⟨y5, h5, _, ⟨y6, h6, _, ⟨y7, h7, _, rfl, rfl⟩, rfl⟩, rfl⟩, rfl⟩, rfl⟩, rfl⟩, rfl⟩, rfl⟩ := hx
    obtain ⟨a0, e10, rfl, w0⟩ := DataW.trod_int Tryz.underlying23 h0
    obtain ⟨a1, e11, rfl, w1⟩ := DataW.trod_int Tryz.underlying23 h1
    obtain ⟨a2, e12, rfl, w2⟩ := DataW.trod_int Tryz.underlying23 h2
    obtain ⟨a3, e13, rfl, w3⟩ := DataW.trod_int Tryz.underlying23 h3
    obtain ⟨a4, e14, rfl, w4⟩ := DataW.trod_int Tryz.underlying23 h4
    obtain ⟨a5, e15, rfl, w5⟩ := DataW.trod_int Tryz.underlying23 h5
    obtain ⟨a6, e16, rfl, w6⟩ := DataW.trod_int Tryz.underlying23 h6
    obtain ⟨a7, e17, rfl, w7⟩ := DataW.trod_int Tryz.underlying23 h7
    simp at e10 e11 e12 e13 e14 e15 e16 e17
    subst e10 e11 e12 e13 e14 e15 e16 e17
    simp only [Prod.mk.injEq] at e1
    exact ⟨a0, a1, a2, a3, a4, a5, a6, a7, rfl, by rw [← e1.1]; rfl, by rw [← e1.2]; rfl, w0, w1, w2, w3, w4, w5, w6, w7⟩
set_option maxRecDepth 100000 in
theorem shut_letters {H : Type} {enc : TypeId × Value → H} {W : World} {base : Nat} {sp : Nat → Bool} {held : Bool} {a0 a1 a2 a3 a4 a5 a6 a7 : Int} (w0 : (Lit.int .u16 a0).wf = true) (w1 : (Lit.int .u16 a1).wf = true) (w2 : (Lit.int .u16 a2).wf = true) (w3 : (Lit.int .u16 a3).wf = true) (w4 : (Lit.int .u16 a4).wf = true) (w5 : (Lit.int .u16 a5).wf = true) (w6 : (Lit.int .u16 a6).wf = true) (w7 : (Lit.int .u16 a7).wf = true) :
    DataW.Trod enc Tryz.prog W base sp held 24 (.agg #[.int .u16 a0, .int .u16 a1, .int .u16 a2, .int .u16 a3, .int .u16 a4, .int .u16 a5, .int .u16 a6, .int .u16 a7]) (.agg [.lit (.int .u16 a0), .lit (.int .u16 a1), .lit (.int .u16 a2), .lit (.int .u16 a3), .lit (.int .u16 a4), .lit (.int .u16 a5), .lit (.int .u16 a6), .lit (.int .u16 a7)]) [] :=
  ⟨2, by
    show DataW.trod enc Tryz.prog W base sp held (1 + 1) 24 [.int .u16 a0, .int .u16 a1, .int .u16 a2, .int .u16 a3, .int .u16 a4, .int .u16 a5, .int .u16 a6, .int .u16 a7] = _
    rw [DataW.trod_step]
    unfold DataW.trodStep
    simp only [Tryz.underlying24]
    rw [if_pos (by rw [letters_cells]; rfl), show List.range 8 = [0, 1, 2, 3, 4, 5, 6, 7] from rfl]
    simp only [List.mapM_cons, List.mapM_nil]
    simp [letters_cell, DataW.trod, Tryz.underlying23, w0, w1, w2, w3, w4, w5, w6, w7]⟩

set_option maxRecDepth 100000 in
theorem four_cell : Tryz.prog.cellsOf 5 = 1 := by kernel_rfl
set_option maxRecDepth 100000 in
theorem nat16 {a : Int} (h : (Lit.int .u16 a).wf = true) : ∃ n : Nat, a = n ∧ n < 65536 := by
  have := bounds_u16 h
  exact ⟨a.toNat, by omega, by omega⟩
set_option maxRecDepth 100000 in
theorem nat8 {a : Int} (h : (Lit.int .u8 a).wf = true) : ∃ n : Nat, a = n ∧ n < 256 := by
  have := bounds_u8 h
  exact ⟨a.toNat, by omega, by omega⟩
set_option maxRecDepth 100000 in
theorem all8 {m0 m1 m2 m3 m4 m5 m6 m7 : Nat} (h0 : m0 < 65536) (h1 : m1 < 65536) (h2 : m2 < 65536) (h3 : m3 < 65536) (h4 : m4 < 65536) (h5 : m5 < 65536) (h6 : m6 < 65536) (h7 : m7 < 65536) : ∀ n ∈ [m0, m1, m2, m3, m4, m5, m6, m7], n < 65536 := by
  intro n hn
  simp only [List.mem_cons, List.not_mem_nil, or_false] at hn
  omega
end Go.Proofs.YtfodkkdggajjaaaGreatDoor

/-
  From a tied card's conditions to what the walks of layer 8 ask: the library's variables that are listed, and a length by the world's shape; worlds that meet the list.
-/
namespace Go.Proofs.YtfodkkdggajjaaaGreatDoor
open Go.ChangeShapes Go.WideShapes Go.ChangeAt Go.RowKit Go.Lib

/-- A row over a list of variables, with the world's shape. -/
theorem change_shaped {H : Type} {enc : TypeId × Value → H} {a : Assume} {C : Checked} {os : Os} {f : FuncId} {fn : Func} {s : ChangeSpec} {conds : List PathCond} {apart fresh handsOn again : Bool} {X : World → Array Value → Prop}
    (hX : ∀ (w w' : World) (args : Array Value), w.heap = w'.heap → X w args → X w' args)
    (own : ownKnob C.prog.godebug = none) (started : os.Started) (noInit : C.prog.inits.idxOf? f = none) (hfn : C.prog.funcs[f]? = some fn)
    (witness : ∃ (w : World) (tape : Tape) (i : Input), w.os = os ∧ (w.forCall tape i).Shaped C.prog ∧ i.vars = [] ∧ Input.okWide C.prog (w.forCall tape i) .any w.heap.size f i ∧
      ((s.pre enc C.prog fn conds apart (w.forCall tape i).memory i.args ∧ X (w.forCall tape i).memory i.args) ∧ sizedMet enc C.prog fn (OpenSpec.ofChange s) apart (w.forCall tape i).memory i.args) ∧ a.holds C.prog (lone (Frame.enter C.prog f i.args .normal) [] (w.forCall tape i)))
    (contract : ∀ (W : World) (base : Nat) (args : Array Value) (ds gs : List (DataW H)) (before : List MemPlace),
      (∀ (j : Nat) t v, fn.params[j]? = some t → args[j]? = some v → Value.okWide C.prog W .any base t v) →
      DataW.Whole enc C.prog fn.params.toList s.vars apart W args.toList ds gs before →
      X W args → W.ShapedOpen C.prog →
      Calls C.prog f args W fun e W' => ∃ v, e = .returned v ∧ s.post enc C.prog fn apart fresh handsOn again W args v W') :
    ReturnsInHanded a C os f .any (fun w args => (s.pre enc C.prog fn conds apart w args ∧ X w args) ∧ sizedMet enc C.prog fn (OpenSpec.ofChange s) apart w args) (s.post enc C.prog fn apart fresh handsOn again) := by
  refine returnsInHanded_of_calls own started noInit witness ?_
  intro w tape i _ hsh _ hok hpre _
  obtain ⟨_, _, _, fn', hfn', _, _, _, _, hval⟩ := hok
  obtain rfl : fn' = fn := Option.some.inj (hfn'.symm.trans hfn)
  obtain ⟨⟨⟨ds, gs, before, hw, _⟩, hx⟩, _⟩ := hpre
  refine (contract (w.forCall tape i) w.heap.size i.args ds gs before hval (DataW.Whole.of_heap (w' := w.forCall tape i) (by rfl) hw) (hX _ _ _ (by rfl) hx) hsh).mono fun e W' ⟨v, he, hp⟩ => ?_
  subst he
  exact ChangeSpec.post_blind hp

theorem Tryz.n_deb : Tryz.prog.globalNamed "math/bits.deBruijn64tab" = some 6 := by kernel_rfl
theorem Tryz.y_deb : (Tryz.prog.globals[6]?).map (·.type) = some 151 := by kernel_rfl
theorem Tryz.c_u8 : Tryz.prog.cellsOf 5 = 1 := by kernel_rfl
theorem Tryz.c_deb : Tryz.prog.cellsOf 151 = 64 := by kernel_rfl
theorem Tryz.n_syn : Tryz.prog.globalNamed "strconv.ErrSyntax" = some 3 := by kernel_rfl
theorem Tryz.n_ran : Tryz.prog.globalNamed "strconv.ErrRange" = some 4 := by kernel_rfl
theorem Tryz.y_syn : (Tryz.prog.globals[3]?).map (·.type) = some 26 := by kernel_rfl
theorem Tryz.y_ran : (Tryz.prog.globals[4]?).map (·.type) = some 26 := by kernel_rfl
def debTab : List Int := Lib.deBruijn64tab.map fun n : Nat => (n : Int)
theorem laid_deb_eq : (Rows.laid_math_bits_deBruijn64tab : DataW Unit) = tabData .u8 debTab := by kernel_rfl
theorem tz_of_reads {w : World} (h : VarReads Tryz.prog w "math/bits.deBruijn64tab" Rows.laid_math_bits_deBruijn64tab) : TabAt 6 Lib.deBruijn64tab w := by
  have ht : Lib.TabIs Tryz.prog w "math/bits.deBruijn64tab" .u8 debTab := by
    obtain ⟨g, t, cs, fuel, p, hg, hty, hvar, hd⟩ := h
    obtain rfl := Option.some.inj (Tryz.n_deb.symm.trans hg)
    obtain rfl := Option.some.inj (Tryz.y_deb.symm.trans hty)
    rw [laid_deb_eq] at hd
    show w.var? _ _ = _
    rw [hvar, ← cells_of_tab Tryz.underlying151 Tryz.underlying5 Tryz.c_u8 Tryz.c_deb hd]
  intro j hj
  have h2 := ht.cell Tryz.n_deb j (by unfold debTab; rw [List.length_map]; exact hj)
  rw [h2]
  congr 2
  unfold debTab
  rw [List.getD_eq_getElem?_getD, List.getD_eq_getElem?_getD, List.getElem?_map, List.getElem?_eq_getElem hj]
  rfl
theorem err_of_reads {w : World} {n nm : String} {g : Nat} {d : DataW Unit} (hn : Tryz.prog.globalNamed n = some g) (hy : (Tryz.prog.globals[g]?).map (·.type) = some 26) (h : VarReads Tryz.prog w n (.iface nm d)) :
    ∃ ev, w.cell? ⟨g, 0, none⟩ = some ev ∧ (ev = .nilIface ∨ ∃ te pe, ev = .iface te pe) := by
  obtain ⟨g', t, cs, fuel, p, hg, hty, hvar, hd⟩ := h
  obtain rfl := Option.some.inj (hn.symm.trans hg)
  obtain rfl := Option.some.inj (hy.symm.trans hty)
  obtain ⟨_, u, v, hcs, _, _⟩ := iface_of_trod Tryz.underlying26 hd
  refine ⟨.iface u v, ?_, .inr ⟨u, v, rfl⟩⟩
  have := World.var?_cell hg hvar 0
  rw [this, ← Array.getElem?_toList, hcs]
  rfl
theorem max_of_shape {w : World} (h : w.ShapedOpen Tryz.prog) : ∃ m, w.cell? ⟨1, 0, none⟩ = some (.int .i64 m) :=
  cell_of_shapedOpen_int (t := 3) (zero := #[.int .i64 0]) h (by decide +kernel) (by kernel_rfl) rfl (by kernel_rfl) (by kernel_rfl) Tryz.underlying3

def laidPlain8 : List (String × DataW Unit) := [("math/bits.deBruijn32tab", Rows.laid_math_bits_deBruijn32tab), ("math/bits.deBruijn64tab", Rows.laid_math_bits_deBruijn64tab), ("internal/strconv.uint64pow10", Rows.laid_internal_strconv_uint64pow10), ("unicode/utf8.acceptRanges", Rows.laid_unicode_utf8_acceptRanges), ("strconv.ErrRange", Rows.laid_strconv_ErrRange), ("strconv.ErrSyntax", Rows.laid_strconv_ErrSyntax), ("unicode/utf8.first", Rows.laid_unicode_utf8_first)]
theorem v8_of_met {W : World} (h : laidMet Tryz.prog laidPlain8 W) (hs : W.ShapedOpen Tryz.prog) : V8 W :=
  ⟨max_of_shape hs, err_of_reads Tryz.n_syn Tryz.y_syn (laidMet.reads h (.tail _ (.tail _ (.tail _ (.tail _ (.tail _ (.head _))))))), err_of_reads Tryz.n_ran Tryz.y_ran (laidMet.reads h (.tail _ (.tail _ (.tail _ (.tail _ (.head _)))))), tz_of_reads (laidMet.reads h (.tail _ (.head _)))⟩
theorem v8_of_laid {W : World} (h : laidMetH Tryz.prog laidPlain8 W) (hs : W.ShapedOpen Tryz.prog) : V8 W := v8_of_met h hs
noncomputable def plainWorld8 (os : Os) : World := World.laidAll Tryz.prog os laidPlain8
theorem plainWorld8_met (os : Os) (args : Array Value) : laidMetH Tryz.prog laidPlain8 ((plainWorld8 os).forCall (fun _ _ => 0) ⟨#[], args, []⟩).memory :=
  laidMet_laidAll args (by kernel_rfl) (by kernel_rfl)
end Go.Proofs.YtfodkkdggajjaaaGreatDoor

/-
  From a tied card's conditions to what the walks ask: the listed variable's cell; a world that meets the list.
-/
namespace Go.Proofs.YtfodkkdggajjaaaGreatDoor
open Go.ChangeShapes Go.WideShapes Go.ChangeAt Go.RowKit

theorem Tryz.et : Tryz.prog.globalNamed "errors.errorType" = some 0 := by kernel_rfl
theorem Tryz.oneRow : ((List.range 183).filter fun t => Tryz.prog.rowNamed t [101, 114, 114, 111, 114]) = [26] := by kernel_rfl
theorem Tryz.size : Tryz.prog.types.size = 183 := by kernel_rfl

def laidList : List (String × DataW Unit) := [("errors.errorType", Rows.laid_errors_errorType)]

theorem ready_of_laid {W : World} (h : laidMetH Tryz.prog laidList W) : Ready W := by
  have h' : laidMet Tryz.prog [] W ∧ handlesMet Tryz.prog laidList W := h
  obtain ⟨name, u, ty, e1, e2, e3, e4, e5⟩ := h'.2 _ (List.mem_singleton.2 rfl)
  have en : name = [101, 114, 114, 111, 114] := (Option.some.inj e1).symm
  subst en
  have e6 := e2.symm.trans (show _ = some 70 by kernel_rfl)
  obtain rfl := Option.some.inj e6
  have hm : ty ∈ (List.range 183).filter fun t => Tryz.prog.rowNamed t [101, 114, 114, 111, 114] := List.mem_filter.2 ⟨List.mem_range.2 (by rw [← Tryz.size]; exact e3), e4⟩
  rw [Tryz.oneRow] at hm
  obtain rfl := List.mem_singleton.1 hm
  have hh : typeHandle Tryz.prog 26 = .pointer (some ⟨9, 26, none⟩) := by kernel_rfl
  rw [hh] at e5
  unfold Ready
  simpa using World.var?_cell Tryz.et e5 0

/-- A world that meets the list: the settled one, the variable's cell laid. -/
noncomputable def laidWorld (os : Os) : World :=
  { World.holding Tryz.prog os ⟨#[], #[], []⟩ with heap := (World.holding Tryz.prog os ⟨#[], #[], []⟩).heap.modify 0 fun
      | .cells _ t frozen => .cells #[.iface 70 (.agg #[.pointer (some ⟨9, 26, none⟩)])] t frozen
      | o => o }
theorem laidWorld_met (os : Os) (args : Array Value) : laidMetH Tryz.prog laidList ((laidWorld os).forCall (fun _ _ => 0) ⟨#[], args, []⟩).memory :=
  laidMetH_of_parts (laidMet_nil _ _) (by kernel_rfl)

end Go.Proofs.YtfodkkdggajjaaaGreatDoor

/-
  From a tied card's conditions to what the walks of layer 8 ask, where errors.errorType is listed too.
-/
namespace Go.Proofs.YtfodkkdggajjaaaGreatDoor
open Go.ChangeShapes Go.WideShapes Go.ChangeAt Go.RowKit Go.Lib

def laidDoor8 : List (String × DataW Unit) := [("math/bits.deBruijn32tab", Rows.laid_math_bits_deBruijn32tab), ("math/bits.deBruijn64tab", Rows.laid_math_bits_deBruijn64tab), ("internal/strconv.uint64pow10", Rows.laid_internal_strconv_uint64pow10), ("unicode/utf8.acceptRanges", Rows.laid_unicode_utf8_acceptRanges), ("errors.errorType", Rows.laid_errors_errorType), ("strconv.ErrRange", Rows.laid_strconv_ErrRange), ("strconv.ErrSyntax", Rows.laid_strconv_ErrSyntax), ("unicode/utf8.first", Rows.laid_unicode_utf8_first)]
theorem both8_of_laid {W : World} (h : laidMetH Tryz.prog laidDoor8 W) (hs : W.ShapedOpen Tryz.prog) : Ready W ∧ V8 W := by
  have h' : laidMet Tryz.prog laidPlain8 W ∧ handlesMet Tryz.prog laidList W := h
  exact ⟨ready_of_laid (show laidMetH Tryz.prog laidList W from ⟨laidMet_nil _ _, h'.2⟩), v8_of_met h'.1 hs⟩
noncomputable def doorWorld8 (os : Os) : World := (laidWorld os).layVars Tryz.prog laidPlain8
theorem doorWorld8_plain (os : Os) (args : Array Value) : laidMet Tryz.prog laidPlain8 ((doorWorld8 os).forCall (fun _ _ => 0) ⟨#[], args, []⟩).memory := by
  have e1 : (laidPlain8.filter fun x => (laidPlain8.map (·.1)).contains x.1) = laidPlain8 := List.filter_eq_self.2 fun x hx => List.contains_iff_mem.2 (List.mem_map.2 ⟨x, hx, rfl⟩)
  have e2 : (laidPlain8.filter fun x => !(laidPlain8.map (·.1)).contains x.1) = [] := List.filter_eq_nil_iff.2 fun x hx => by rw [List.contains_iff_mem.2 (List.mem_map.2 ⟨x, hx, rfl⟩)]; simp
  have h : laidMet Tryz.prog laidPlain8 (doorWorld8 os) := laidMet_layVars (w0 := laidWorld os) (laidPlain8.map (·.1)) [] (by rw [e1]; rfl) (by rw [e1]; kernel_rfl) (by rw [e1]; kernel_rfl) (by rw [e2]; exact LaidIn.none)
  exact h.of_heap (by simp [World.memory, World.forCall, Input.heap])
theorem doorWorld8_met (os : Os) (args : Array Value) : laidMetH Tryz.prog laidDoor8 ((doorWorld8 os).forCall (fun _ _ => 0) ⟨#[], args, []⟩).memory :=
  laidMetH_of_parts (show laidMet Tryz.prog laidPlain8 _ from doorWorld8_plain os args) (by kernel_rfl)
end Go.Proofs.YtfodkkdggajjaaaGreatDoor

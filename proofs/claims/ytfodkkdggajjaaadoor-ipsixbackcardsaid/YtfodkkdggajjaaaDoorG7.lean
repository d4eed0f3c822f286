/-
  In this text, one behind the other: Lift, ALift, SixLift.
-/
import Derived.ProofKit
import Derived.OpenShut
import Derived.ShutString
import Derived.ChangeSame
import Derived.ChangeVars
import Derived.ChangeOld
import Derived.ChangeSlices
import Derived.ChangeMaps5
import Derived.Carry
import Derived.JoinedOf
import Derived.RowKit
import Derived.WideKeyPair
import Derived.Shelf.Vars
import Derived.Lib.LaidU8
import Derived.Lay
import Derived.HandedShaped
import Derived.Test.YtfodkkdggajjaaaDoorG2
import Derived.Test.YtfodkkdggajjaaaDoorG3
/-
  From the rows' conditions to what the walks ask: a slice of runes opened.
-/
namespace Go.Proofs.YtfodkkdggajjaaaDoor
open Go.ChangeShapes Go.WideShapes Go.ChangeAt Go.RowKit

theorem Tryd.own : ownKnob Tryd.prog.godebug = none := by kernel_rfl
theorem Tryd.laidOut : laidOutB Tryd.prog = true := by kernel_rfl

end Go.Proofs.YtfodkkdggajjaaaDoor

/-
  Arrays of letters and of bytes as a law's arguments: opened and shut.
-/
namespace Go.Proofs.YtfodkkdggajjaaaDoor
open Go.ChangeShapes Go.WideShapes Go.ChangeAt Go.RowKit

set_option maxRecDepth 100000 in
theorem letters_arr {W : World} {r : Reach} {b0 : Nat} {v : Value} (h : Value.okWide Tryd.prog W r b0 23 v) : ∃ xs : Array Value, v = .agg xs ∧ xs.size = 8 := by
  simp only [Value.okWide, Tryd.underlying23] at h
  obtain ⟨cs, h1, h2, _⟩ := h
  exact ⟨cs, h1, by rw [h2]; kernel_rfl⟩
set_option maxRecDepth 100000 in
theorem letters_cells : Tryd.prog.cellsOf 23 = 8 := by kernel_rfl
set_option maxRecDepth 100000 in
theorem letters_cell : Tryd.prog.cellsOf 22 = 1 := by kernel_rfl
set_option maxRecDepth 100000 in
theorem open_letters {H : Type} {enc : TypeId × Value → H} {W : World} {base : Nat} {sp : Nat → Bool} {held : Bool} {r : Reach} {b0 : Nat} {v : Value} {d : DataW H} {ps : List MemPlace} (hval : Value.okWide Tryd.prog W r b0 23 v) (hd : DataW.Trod enc Tryd.prog W base sp held 23 v d ps) :
    ∃ a0 a1 a2 a3 a4 a5 a6 a7 : Int, v = .agg #[.int .u16 a0, .int .u16 a1, .int .u16 a2, .int .u16 a3, .int .u16 a4, .int .u16 a5, .int .u16 a6, .int .u16 a7] ∧ d = .agg [.lit (.int .u16 a0), .lit (.int .u16 a1), .lit (.int .u16 a2), .lit (.int .u16 a3), .lit (.int .u16 a4), .lit (.int .u16 a5), .lit (.int .u16 a6), .lit (.int .u16 a7)] ∧ ps = [] ∧ (Lit.int .u16 a0).wf = true ∧ (Lit.int .u16 a1).wf = true ∧ (Lit.int .u16 a2).wf = true ∧ (Lit.int .u16 a3).wf = true ∧ (Lit.int .u16 a4).wf = true ∧ (Lit.int .u16 a5).wf = true ∧ (Lit.int .u16 a6).wf = true ∧ (Lit.int .u16 a7).wf = true := by
  obtain ⟨xs, rfl, hn⟩ := letters_arr hval
  obtain ⟨c0, c1, c2, c3, c4, c5, c6, c7, rfl⟩ : ∃ c0 c1 c2 c3 c4 c5 c6 c7 : Value, xs = #[c0, c1, c2, c3, c4, c5, c6, c7] := by
    obtain ⟨l⟩ := xs
    match l, hn with
    | [c0, c1, c2, c3, c4, c5, c6, c7], _ => exact ⟨c0, c1, c2, c3, c4, c5, c6, c7, rfl⟩
  obtain ⟨fuel, hf⟩ := hd
  cases fuel with
  | zero => simp [DataW.trod] at hf
  | succ m =>
    rw [DataW.trod_step] at hf
    unfold DataW.trodStep at hf
    simp only [Tryd.underlying23, Value.cells] at hf
    rw [if_pos (by rw [letters_cells]; rfl)] at hf
    simp only [Option.map_eq_some_iff] at hf
    obtain ⟨xs, hx, e1⟩ := hf
    rw [show List.range 8 = [0, 1, 2, 3, 4, 5, 6, 7] from rfl] at hx
    simp only [List.mapM_cons, List.mapM_nil, bind, Option.bind_eq_some_iff, pure, Option.some.injEq, letters_cell] at hx
    obtain ⟨y0, h0, _, ⟨y1, h1, _, ⟨y2, h2, _, ⟨y3, h3, _, ⟨y4, h4, _, ⟨y5, h5, _, ⟨y6, h6, _, ⟨y7, h7, _, rfl, rfl⟩, rfl⟩, rfl⟩, rfl⟩, rfl⟩, rfl⟩, rfl⟩, rfl⟩ := hx
    obtain ⟨a0, e10, rfl, w0⟩ := DataW.trod_int Tryd.underlying22 h0
    obtain ⟨a1, e11, rfl, w1⟩ := DataW.trod_int Tryd.underlying22 h1
    obtain ⟨a2, e12, rfl, w2⟩ := DataW.trod_int Tryd.underlying22 h2
    obtain ⟨a3, e13, rfl, w3⟩ := DataW.trod_int Tryd.underlying22 h3
    obtain ⟨a4, e14, rfl, w4⟩ := DataW.trod_int Tryd.underlying22 h4
    obtain ⟨a5, e15, rfl, w5⟩ := DataW.trod_int Tryd.underlying22 h5
    obtain ⟨a6, e16, rfl, w6⟩ := DataW.trod_int Tryd.underlying22 h6
    obtain ⟨a7, e17, rfl, w7⟩ := DataW.trod_int Tryd.underlying22 h7
    simp at e10 e11 e12 e13 e14 e15 e16 e17
    subst e10 e11 e12 e13 e14 e15 e16 e17
    simp only [Prod.mk.injEq] at e1
    exact ⟨a0, a1, a2, a3, a4, a5, a6, a7, rfl, by rw [← e1.1]; rfl, by rw [← e1.2]; rfl, w0, w1, w2, w3, w4, w5, w6, w7⟩
set_option maxRecDepth 100000 in
theorem shut_letters {H : Type} {enc : TypeId × Value → H} {W : World} {base : Nat} {sp : Nat → Bool} {held : Bool} {a0 a1 a2 a3 a4 a5 a6 a7 : Int} (w0 : (Lit.int .u16 a0).wf = true) (w1 : (Lit.int .u16 a1).wf = true) (w2 : (Lit.int .u16 a2).wf = true) (w3 : (Lit.int .u16 a3).wf = true) (w4 : (Lit.int .u16 a4).wf = true) (w5 : (Lit.int .u16 a5).wf = true) (w6 : (Lit.int .u16 a6).wf = true) (w7 : (Lit.int .u16 a7).wf = true) :
    DataW.Trod enc Tryd.prog W base sp held 23 (.agg #[.int .u16 a0, .int .u16 a1, .int .u16 a2, .int .u16 a3, .int .u16 a4, .int .u16 a5, .int .u16 a6, .int .u16 a7]) (.agg [.lit (.int .u16 a0), .lit (.int .u16 a1), .lit (.int .u16 a2), .lit (.int .u16 a3), .lit (.int .u16 a4), .lit (.int .u16 a5), .lit (.int .u16 a6), .lit (.int .u16 a7)]) [] :=
  ⟨2, by
    show DataW.trod enc Tryd.prog W base sp held (1 + 1) 23 [.int .u16 a0, .int .u16 a1, .int .u16 a2, .int .u16 a3, .int .u16 a4, .int .u16 a5, .int .u16 a6, .int .u16 a7] = _
    rw [DataW.trod_step]
    unfold DataW.trodStep
    simp only [Tryd.underlying23]
    rw [if_pos (by rw [letters_cells]; rfl), show List.range 8 = [0, 1, 2, 3, 4, 5, 6, 7] from rfl]
    simp only [List.mapM_cons, List.mapM_nil]
    simp [letters_cell, DataW.trod, Tryd.underlying22, w0, w1, w2, w3, w4, w5, w6, w7]⟩

set_option maxRecDepth 100000 in
theorem four_arr {W : World} {r : Reach} {b0 : Nat} {v : Value} (h : Value.okWide Tryd.prog W r b0 35 v) : ∃ xs : Array Value, v = .agg xs ∧ xs.size = 4 := by
  simp only [Value.okWide, Tryd.underlying35] at h
  obtain ⟨cs, h1, h2, _⟩ := h
  exact ⟨cs, h1, by rw [h2]; kernel_rfl⟩
set_option maxRecDepth 100000 in
theorem four_cells : Tryd.prog.cellsOf 35 = 4 := by kernel_rfl
set_option maxRecDepth 100000 in
theorem four_cell : Tryd.prog.cellsOf 5 = 1 := by kernel_rfl
set_option maxRecDepth 100000 in
theorem open_four {H : Type} {enc : TypeId × Value → H} {W : World} {base : Nat} {sp : Nat → Bool} {held : Bool} {r : Reach} {b0 : Nat} {v : Value} {d : DataW H} {ps : List MemPlace} (hval : Value.okWide Tryd.prog W r b0 35 v) (hd : DataW.Trod enc Tryd.prog W base sp held 35 v d ps) :
    ∃ a0 a1 a2 a3 : Int, v = .agg #[.int .u8 a0, .int .u8 a1, .int .u8 a2, .int .u8 a3] ∧ d = .agg [.lit (.int .u8 a0), .lit (.int .u8 a1), .lit (.int .u8 a2), .lit (.int .u8 a3)] ∧ ps = [] ∧ (Lit.int .u8 a0).wf = true ∧ (Lit.int .u8 a1).wf = true ∧ (Lit.int .u8 a2).wf = true ∧ (Lit.int .u8 a3).wf = true := by
  obtain ⟨xs, rfl, hn⟩ := four_arr hval
  obtain ⟨c0, c1, c2, c3, rfl⟩ : ∃ c0 c1 c2 c3 : Value, xs = #[c0, c1, c2, c3] := by
    obtain ⟨l⟩ := xs
    match l, hn with
    | [c0, c1, c2, c3], _ => exact ⟨c0, c1, c2, c3, rfl⟩
  obtain ⟨fuel, hf⟩ := hd
  cases fuel with
  | zero => simp [DataW.trod] at hf
  | succ m =>
    rw [DataW.trod_step] at hf
    unfold DataW.trodStep at hf
    simp only [Tryd.underlying35, Value.cells] at hf
    rw [if_pos (by rw [four_cells]; rfl)] at hf
    simp only [Option.map_eq_some_iff] at hf
    obtain ⟨xs, hx, e1⟩ := hf
    rw [show List.range 4 = [0, 1, 2, 3] from rfl] at hx
    simp only [List.mapM_cons, List.mapM_nil, bind, Option.bind_eq_some_iff, pure, Option.some.injEq, four_cell] at hx
    obtain ⟨y0, h0, _, ⟨y1, h1, _, ⟨y2, h2, _, ⟨y3, h3, _, rfl, rfl⟩, rfl⟩, rfl⟩, rfl⟩ := hx
    obtain ⟨a0, e10, rfl, w0⟩ := DataW.trod_int Tryd.underlying5 h0
    obtain ⟨a1, e11, rfl, w1⟩ := DataW.trod_int Tryd.underlying5 h1
    obtain ⟨a2, e12, rfl, w2⟩ := DataW.trod_int Tryd.underlying5 h2
    obtain ⟨a3, e13, rfl, w3⟩ := DataW.trod_int Tryd.underlying5 h3
    simp at e10 e11 e12 e13
    subst e10 e11 e12 e13
    simp only [Prod.mk.injEq] at e1
    exact ⟨a0, a1, a2, a3, rfl, by rw [← e1.1]; rfl, by rw [← e1.2]; rfl, w0, w1, w2, w3⟩
set_option maxRecDepth 100000 in
theorem shut_four {H : Type} {enc : TypeId × Value → H} {W : World} {base : Nat} {sp : Nat → Bool} {held : Bool} {a0 a1 a2 a3 : Int} (w0 : (Lit.int .u8 a0).wf = true) (w1 : (Lit.int .u8 a1).wf = true) (w2 : (Lit.int .u8 a2).wf = true) (w3 : (Lit.int .u8 a3).wf = true) :
    DataW.Trod enc Tryd.prog W base sp held 35 (.agg #[.int .u8 a0, .int .u8 a1, .int .u8 a2, .int .u8 a3]) (.agg [.lit (.int .u8 a0), .lit (.int .u8 a1), .lit (.int .u8 a2), .lit (.int .u8 a3)]) [] :=
  ⟨2, by
    show DataW.trod enc Tryd.prog W base sp held (1 + 1) 35 [.int .u8 a0, .int .u8 a1, .int .u8 a2, .int .u8 a3] = _
    rw [DataW.trod_step]
    unfold DataW.trodStep
    simp only [Tryd.underlying35]
    rw [if_pos (by rw [four_cells]; rfl), show List.range 4 = [0, 1, 2, 3] from rfl]
    simp only [List.mapM_cons, List.mapM_nil]
    simp [four_cell, DataW.trod, Tryd.underlying5, w0, w1, w2, w3]⟩

set_option maxRecDepth 100000 in
theorem nat16 {a : Int} (h : (Lit.int .u16 a).wf = true) : ∃ n : Nat, a = n ∧ n < 65536 := by
  have := bounds_u16 h
  exact ⟨a.toNat, by omega, by omega⟩
set_option maxRecDepth 100000 in
theorem nat8 {a : Int} (h : (Lit.int .u8 a).wf = true) : ∃ n : Nat, a = n ∧ n < 256 := by
  have := bounds_u8 h
  exact ⟨a.toNat, by omega, by omega⟩
set_option maxRecDepth 100000 in
theorem all8 {m0 m1 m2 m3 m4 m5 m6 m7 : Nat} (h0 : m0 < 65536) (h1 : m1 < 65536) (h2 : m2 < 65536) (h3 : m3 < 65536) (h4 : m4 < 65536) (h5 : m5 < 65536) (h6 : m6 < 65536) (h7 : m7 < 65536) : ∀ n ∈ [m0, m1, m2, m3, m4, m5, m6, m7], n < 65536 := by
  intro n hn
  simp only [List.mem_cons, List.not_mem_nil, or_false] at hn
  omega
end Go.Proofs.YtfodkkdggajjaaaDoor

/-
  From a tied card's conditions to what the walks of layer 8 ask: the library's variables that are listed, and a length by the world's shape; worlds that meet the list.
-/
namespace Go.Proofs.YtfodkkdggajjaaaDoor
open Go.ChangeShapes Go.WideShapes Go.ChangeAt Go.RowKit Go.Lib

/-- A row over a list of variables, with the world's shape. -/
theorem change_shaped {H : Type} {enc : TypeId × Value → H} {a : Assume} {C : Checked} {os : Os} {f : FuncId} {fn : Func} {s : ChangeSpec} {conds : List PathCond} {apart fresh handsOn again : Bool} {X : World → Array Value → Prop}
    (hX : ∀ (w w' : World) (args : Array Value), w.heap = w'.heap → X w args → X w' args)
    (own : ownKnob C.prog.godebug = none) (started : os.Started) (noInit : C.prog.inits.idxOf? f = none) (hfn : C.prog.funcs[f]? = some fn)
    (witness : ∃ (w : World) (tape : Tape) (i : Input), w.os = os ∧ (w.forCall tape i).Shaped C.prog ∧ i.vars = [] ∧ Input.okWide C.prog (w.forCall tape i) .any w.heap.size f i ∧
      ((s.pre enc C.prog fn conds apart (w.forCall tape i).memory i.args ∧ X (w.forCall tape i).memory i.args) ∧ sizedMet enc C.prog fn (OpenSpec.ofChange s) apart (w.forCall tape i).memory i.args) ∧ a.holds C.prog (lone (Frame.enter C.prog f i.args .normal) [] (w.forCall tape i)))
    (contract : ∀ (W : World) (base : Nat) (args : Array Value) (ds gs : List (DataW H)) (before : List MemPlace),
      (∀ (j : Nat) t v, fn.params[j]? = some t → args[j]? = some v → Value.okWide C.prog W .any base t v) →
      DataW.Whole enc C.prog fn.params.toList s.vars apart W args.toList ds gs before →
      X W args → W.ShapedOpen C.prog →
      Calls C.prog f args W fun e W' => ∃ v, e = .returned v ∧ s.post enc C.prog fn apart fresh handsOn again W args v W') :
    ReturnsInHanded a C os f .any (fun w args => (s.pre enc C.prog fn conds apart w args ∧ X w args) ∧ sizedMet enc C.prog fn (OpenSpec.ofChange s) apart w args) (s.post enc C.prog fn apart fresh handsOn again) := by
  refine returnsInHanded_of_calls own started noInit witness ?_
  intro w tape i _ hsh _ hok hpre _
  obtain ⟨_, _, _, fn', hfn', _, _, _, _, hval⟩ := hok
  obtain rfl : fn' = fn := Option.some.inj (hfn'.symm.trans hfn)
  obtain ⟨⟨⟨ds, gs, before, hw, _⟩, hx⟩, _⟩ := hpre
  refine (contract (w.forCall tape i) w.heap.size i.args ds gs before hval (DataW.Whole.of_heap (w' := w.forCall tape i) (by rfl) hw) (hX _ _ _ (by rfl) hx) hsh).mono fun e W' ⟨v, he, hp⟩ => ?_
  subst he
  exact ChangeSpec.post_blind hp

theorem Tryd.n_deb : Tryd.prog.globalNamed "math/bits.deBruijn64tab" = some 5 := by kernel_rfl
theorem Tryd.y_deb : (Tryd.prog.globals[5]?).map (·.type) = some 129 := by kernel_rfl
theorem Tryd.c_u8 : Tryd.prog.cellsOf 5 = 1 := by kernel_rfl
theorem Tryd.c_deb : Tryd.prog.cellsOf 129 = 64 := by kernel_rfl
theorem Tryd.n_syn : Tryd.prog.globalNamed "strconv.ErrSyntax" = some 2 := by kernel_rfl
theorem Tryd.n_ran : Tryd.prog.globalNamed "strconv.ErrRange" = some 3 := by kernel_rfl
theorem Tryd.y_syn : (Tryd.prog.globals[2]?).map (·.type) = some 28 := by kernel_rfl
theorem Tryd.y_ran : (Tryd.prog.globals[3]?).map (·.type) = some 28 := by kernel_rfl
def debTab : List Int := Lib.deBruijn64tab.map fun n : Nat => (n : Int)
theorem laid_deb_eq : (Rows.laid_math_bits_deBruijn64tab : DataW Unit) = tabData .u8 debTab := by kernel_rfl
theorem tz_of_reads {w : World} (h : VarReads Tryd.prog w "math/bits.deBruijn64tab" Rows.laid_math_bits_deBruijn64tab) : TabAt 5 Lib.deBruijn64tab w := by
  have ht : Lib.TabIs Tryd.prog w "math/bits.deBruijn64tab" .u8 debTab := by
    obtain ⟨g, t, cs, fuel, p, hg, hty, hvar, hd⟩ := h
    obtain rfl := Option.some.inj (Tryd.n_deb.symm.trans hg)
    obtain rfl := Option.some.inj (Tryd.y_deb.symm.trans hty)
    rw [laid_deb_eq] at hd
    show w.var? _ _ = _
    rw [hvar, ← cells_of_tab Tryd.underlying129 Tryd.underlying5 Tryd.c_u8 Tryd.c_deb hd]
  intro j hj
  have h2 := ht.cell Tryd.n_deb j (by unfold debTab; rw [List.length_map]; exact hj)
  rw [h2]
  congr 2
  unfold debTab
  rw [List.getD_eq_getElem?_getD, List.getD_eq_getElem?_getD, List.getElem?_map, List.getElem?_eq_getElem hj]
  rfl
theorem err_of_reads {w : World} {n nm : String} {g : Nat} {d : DataW Unit} (hn : Tryd.prog.globalNamed n = some g) (hy : (Tryd.prog.globals[g]?).map (·.type) = some 28) (h : VarReads Tryd.prog w n (.iface nm d)) :
    ∃ ev, w.cell? ⟨g, 0, none⟩ = some ev ∧ (ev = .nilIface ∨ ∃ te pe, ev = .iface te pe) := by
  obtain ⟨g', t, cs, fuel, p, hg, hty, hvar, hd⟩ := h
  obtain rfl := Option.some.inj (hn.symm.trans hg)
  obtain rfl := Option.some.inj (hy.symm.trans hty)
  obtain ⟨_, u, v, hcs, _, _⟩ := iface_of_trod Tryd.underlying28 hd
  refine ⟨.iface u v, ?_, .inr ⟨u, v, rfl⟩⟩
  have := World.var?_cell hg hvar 0
  rw [this, ← Array.getElem?_toList, hcs]
  rfl
theorem max_of_shape {w : World} (h : w.ShapedOpen Tryd.prog) : ∃ m, w.cell? ⟨0, 0, none⟩ = some (.int .i64 m) :=
  cell_of_shapedOpen_int (t := 3) (zero := #[.int .i64 0]) h (by decide +kernel) (by kernel_rfl) rfl (by kernel_rfl) (by kernel_rfl) Tryd.underlying3

def laidPlain8 : List (String × DataW Unit) := [("math/bits.deBruijn32tab", Rows.laid_math_bits_deBruijn32tab), ("math/bits.deBruijn64tab", Rows.laid_math_bits_deBruijn64tab), ("internal/strconv.uint64pow10", Rows.laid_internal_strconv_uint64pow10), ("unicode/utf8.acceptRanges", Rows.laid_unicode_utf8_acceptRanges), ("strconv.ErrRange", Rows.laid_strconv_ErrRange), ("strconv.ErrSyntax", Rows.laid_strconv_ErrSyntax), ("unicode/utf8.first", Rows.laid_unicode_utf8_first)]
theorem v8_of_met {W : World} (h : laidMet Tryd.prog laidPlain8 W) (hs : W.ShapedOpen Tryd.prog) : V8 W :=
  ⟨max_of_shape hs, err_of_reads Tryd.n_syn Tryd.y_syn (laidMet.reads h (.tail _ (.tail _ (.tail _ (.tail _ (.tail _ (.head _))))))), err_of_reads Tryd.n_ran Tryd.y_ran (laidMet.reads h (.tail _ (.tail _ (.tail _ (.tail _ (.head _)))))), tz_of_reads (laidMet.reads h (.tail _ (.head _)))⟩
theorem v8_of_laid {W : World} (h : laidMetH Tryd.prog laidPlain8 W) (hs : W.ShapedOpen Tryd.prog) : V8 W := v8_of_met h hs
noncomputable def plainWorld8 (os : Os) : World := World.laidAll Tryd.prog os laidPlain8
theorem plainWorld8_met (os : Os) (args : Array Value) : laidMetH Tryd.prog laidPlain8 ((plainWorld8 os).forCall (fun _ _ => 0) ⟨#[], args, []⟩).memory :=
  laidMet_laidAll args (by kernel_rfl) (by kernel_rfl)
end Go.Proofs.YtfodkkdggajjaaaDoor

/-
  In this text, one behind the other: QEnc, QEnc2, QAsc, QPut.
-/
import Derived.Laws.MakeOwn
import Derived.Lib.OthersKept
import Derived.Lib.TrimU
import Derived.Laws.IdiomStrings
import Derived.Shelf.Spec.SlicesInsertGrow
import Derived.Deep.RegionLaw
import Derived.Test.YtfaieldafoeaiaaDoorG5
import Derived.Test.YtfaieldafoeaiaaDoorG6
import Derived.Test.YtfaieldafoeaiaaDoorG2
import Derived.Test.YtfaieldafoeaiaaDoorG3
import Derived.Test.YtfaieldafoeaiaaDoorG4
/-
  Encode: where a number is no scalar; the state of its loops.
-/
namespace Go.Proofs.YtfaieldafoeaiaaDoor
open Go.RowKit

theorem anyBad_yes {l : List Int} (h : ¬ ∀ c ∈ l, scal c = true) : anyBad l = true := by
  unfold anyBad
  rw [List.any_eq_true]
  apply Classical.byContradiction
  intro hn
  apply h
  intro c hc
  cases hs : scal c with
  | true => rfl
  | false => exact absurd ⟨c, hc, by rw [hs]; rfl⟩ hn
theorem anyBad_no {l : List Int} (h : ∀ c ∈ l, scal c = true) : anyBad l = false := by
  unfold anyBad
  rw [List.any_eq_false]
  intro c hc
  rw [h c hc]; simp

set_option maxHeartbeats 1000000 in
set_option maxRecDepth 100000 in
theorem enc_bad (A : Option Addr) (l : List Int) (cap : Nat) (w : World) (h : Runes w A l) (hr : ∀ c ∈ l, -2147483648 ≤ c ∧ c < 2147483648) (hb : ¬ ∀ c ∈ l, scal c = true) (hl : l.length ≤ 250) :
    Calls Tryd.prog 28 #[.slice A l.length cap] w (EncBad w) := by
  have HB := Lib.hid (anyBad_yes hb)
  have HC := qcontains_any A l cap (w.alloc (.cells #[.slice A l.length cap] 22)) (h.below ((Below.refl _ _).alloc (Nat.le_refl _) _)) hr (by omega)
  rw [HB.out] at HC
  clear hb h hr HB
  go_enter Tryd.func28, Tryd.ntmps28
  go_wp2_with (first
    | (go_at_call 24; refine HC.mono ?_; rintro e w' ⟨rfl, rfl⟩)
    | (go_at_call 34; refine (wrap_held _ _ _ _).mono ?_; rintro e w' ⟨rfl, rfl⟩))
  go_ret2
  refine ⟨[⟨#[112, 117, 110, 121]⟩], _, _, rfl, ?_, ?_⟩
  · have hc := Chain.lay (w := w.alloc (.cells #[.slice A l.length cap] 22)) (cs := []) (o := some 2) ⟨#[112, 117, 110, 121]⟩ rfl
    rw [show (w.alloc (.cells #[.slice A l.length cap] 22)).heap.size = w.heap.size + 1 by simp] at hc
    exact hc
  · exact ((Below.refl _ _).alloc (Nat.le_refl _) _).alloc (by simp) _

theorem ints_scal {ln : List Nat} (h : ∀ c ∈ ln, sc c = true) : ∀ c ∈ ints ln, scal c = true := by
  intro c hc
  obtain ⟨x, hx, rfl⟩ := List.mem_map.1 hc
  rw [sc_scal']
  exact h x hx

theorem Tryd.infoI64 : (Tryd.prog.info? 2).map (fun i => (i.zero, i.size, i.bytes)) = some (some (.int .i64 0), 1, 8) := by kernel_rfl
theorem Tryd.infoInt : (Tryd.prog.info? 3).map (fun i => (i.zero, i.size, i.bytes)) = some (some (.int .i64 0), 1, 8) := by kernel_rfl
theorem fen_none (i : Nat) : fen (fun _ => false) i = 0 := by
  have : ∀ n, cnt (fun _ => false) n = 0 := by
    intro n
    induction n with
    | zero => rfl
    | succ n ih => show cnt _ n + 0 = 0; rw [ih]
  unfold fen; rw [this, this]
/-- The tally, made. -/
theorem tally_made (w : World) (n : Nat) (hn : n ≤ 250) : ∃ w2, (Instr.makeSlice 77 (.int .i64 ((n : Int) + 1)) (.int .i64 ((n : Int) + 1))).run Tryd.prog w = .ok (.slice (some ⟨w.heap.size, 0, none⟩) (n + 1) (n + 1)) w2 ∧
    Tally w.heap.size n (fun _ => false) w2 ∧ Kept [] w w2 ∧ w2.heap.size = w.heap.size + 1 := by
  obtain ⟨i0, hi, hz0, hz1, hz2⟩ := info_parts Tryd.infoI64
  have hr := run_make (P := Tryd.prog) w 77 2 i0 (.int .i64 0) Tryd.underlying77 hi hz0 .i64 .i64 ((n : Int) + 1) ((n : Int) + 1) (by omega) (Int.le_refl _) (by rw [hz2]; omega) (by omega)
  rw [show ((n : Int) + 1).toNat = n + 1 by omega] at hr
  refine ⟨_, hr, ⟨by simp, fun i hi => ?_⟩, (Kept.refl _ _).alloc _, by simp⟩
  rw [fen_none, World.cell?_alloc_at _ _ _ _ (by simp), World.frozen?_alloc_at _ _ _ _ (by simp), hz1]
  refine ⟨?_, by simp⟩
  simp only [madeCells, Nat.mul_one]
  rw [Array.getElem?_eq_getElem (by simp; omega)]
  simp [Value.cells, Nat.mod_one]

def vi (x : Nat) : Value := .int .i64 (x : Int)
/-- The row of the others' places, in block g. -/
def RowO (v : Value) (O : List Nat) (g : Option Nat) (w : World) : Prop := w.ownsRow 0 3 1 v O.length (O.map vi) ∧ v.ownBlock = g
theorem RowO.kept {v : Value} {O : List Nat} {g : Option Nat} {w w' : World} {S : List Nat} (h : RowO v O g w) (hk : Kept S w w') (hs : ∀ k, g = some k → k ∉ S) : RowO v O g w' := ⟨owns_kept h.1 hk (fun k e => hs k (h.2 ▸ e)), h.2⟩
theorem oth_append {ops : Array Oper} {rest : List Oper} {o : Oper} {a : Act} {Q : Exit → Act → World → Prop} {w : World} (hgd : o.guard = none) (s x : Operand)
    (ho : o.op = .call { callee := .builtin .append, args := #[s, x], argTypes := #[78, 78] })
    (v : Value) (O : List Nat) (g : Option Nat) (p : Nat) (hs : a.eval s = v) (hx : a.eval x = .slice (some ⟨w.heap.size, 0, none⟩) 1 1) (h : RowO v O g w) (hl : O.length ≤ 4000)
    (k : ∀ v' w' g', RowO v' (O ++ [p]) g' w' → Kept g.toList w w' → (g' = g ∨ ∃ k, g' = some k ∧ w.heap.size ≤ k ∧ k < w'.heap.size) → wpList Tryd.prog ops Q rest (a.put o.dst v') w') : wpList Tryd.prog ops Q (o :: rest) a (w.alloc (.cells #[.int .i64 (p : Int)] 3)) := by
  obtain ⟨i0, hi, hz0, hz1, hz2⟩ := info_parts Tryd.infoInt
  obtain ⟨h1, rfl⟩ := h
  refine wpList_append_own_at _ hgd s x _ ho 0 3 i0 _ 1 8 Tryd.underlying78 hi hz0 hz1 hz2 rfl (by decide) v _ _ hs (World.ownsRow.alloc h1 _) ⟨w.heap.size, 0, none⟩ 1 1 [.int .i64 (p : Int)] hx rfl (cell_one_new _ _ _) (by simp [Value.oneCell']) (by simp only [maxLen]; omega) (by omega) (Nat.zero_le _) (fun v' w' hown hg _ hat => k v' w' v'.ownBlock ⟨?_, rfl⟩ ?_ ?_)
  · rw [List.length_append, List.map_append]; exact hown
  · exact ((Kept.refl _ _).alloc _).grown hg (fun k hk => .inl (by simp [hk]))
  · rcases hat with e | e
    · exact .inl e
    · have := (World.ownsRow.lt hown _ e).2
      exact .inr ⟨_, e, by simp, this⟩

/-- What Encode has made, and where. -/
structure Core (w0 : World) (A : Option Addr) (ln : List Nat) (cap bl bb bt : Nat) (o g : Option Nat) (txt : List UInt8) (M : Nat → Bool) (w : World) : Prop where
  runes : Runes w0 A (ints ln)
  below : Below w0.heap.size w0 w
  box : w.cell? ⟨bl, 0, none⟩ = some (.slice A ln.length cap)
  bld : BldO bb o txt w
  tal : Tally bt ln.length M w
  base : w0.heap.size ≤ bl ∧ w0.heap.size ≤ bb ∧ w0.heap.size ≤ bt ∧ bl < w.heap.size ∧ bl ≠ bb ∧ bl ≠ bt ∧ bb ≠ bt
  osep : ∀ k, o = some k → w0.heap.size ≤ k ∧ k ≠ bl ∧ k ≠ bt
  gsep : ∀ k, g = some k → w0.heap.size ≤ k ∧ k < w.heap.size ∧ k ≠ bl ∧ k ≠ bb ∧ k ≠ bt ∧ o ≠ some k
theorem Core.put {w0 : World} {A : Option Addr} {ln : List Nat} {cap bl bb bt : Nat} {o o' g : Option Nat} {txt txt' : List UInt8} {M : Nat → Bool} {w w' : World} (h : Core w0 A ln cap bl bb bt o g txt M w) (hb : BldO bb o' txt' w') (ho : OAt w o o') (hk : Kept (bb :: o.toList) w w') : Core w0 A ln cap bl bb bt o' g txt' M w' := by
  obtain ⟨b1, b2, b3, b4, b5, b6, b7⟩ := h.base
  have hsz := h.below.size
  have ht := h.tal.1
  have hol := h.bld.olt
  refine ⟨h.runes, h.below.trans (hk.below hsz ?_), ?_, hb, h.tal.kept hk ?_, ⟨b1, b2, b3, Nat.lt_of_lt_of_le b4 hk.size, b5, b6, b7⟩, ?_, ?_⟩
  · intro k hk'
    rcases List.mem_cons.1 hk' with rfl | hk'
    · exact b2
    · exact (h.osep k (by simpa using hk')).1
  · rw [hk.cell (p := ⟨bl, 0, none⟩) b4 ?_]
    · exact h.box
    · rintro hk'
      rcases List.mem_cons.1 hk' with e | hk'
      · exact b5 e
      · exact (h.osep bl (by simpa using hk')).2.1 rfl
  · intro hk'
    rcases List.mem_cons.1 hk' with e | hk'
    · exact b7 e.symm
    · exact (h.osep bt (by simpa using hk')).2.2 rfl
  · intro k e
    rcases ho with rfl | ⟨k', e', hk'⟩
    · exact h.osep k e
    · rw [e] at e'
      cases e'
      exact ⟨by omega, by omega, by omega⟩
  · intro k e
    obtain ⟨g1, g2, g3, g4, g5, g6⟩ := h.gsep k e
    refine ⟨g1, Nat.lt_of_lt_of_le g2 hk.size, g3, g4, g5, ?_⟩
    rcases ho with rfl | ⟨k', e', hk'⟩
    · exact g6
    · intro e2
      rw [e2] at e'
      cases e'
      omega
theorem Core.mark {w0 : World} {A : Option Addr} {ln : List Nat} {cap bl bb bt : Nat} {o g : Option Nat} {txt : List UInt8} {M M' : Nat → Bool} {w w' : World} (h : Core w0 A ln cap bl bb bt o g txt M w) (ht : Tally bt ln.length M' w') (hk : Kept [bt] w w') : Core w0 A ln cap bl bb bt o g txt M' w' := by
  obtain ⟨b1, b2, b3, b4, b5, b6, b7⟩ := h.base
  have hsz := h.below.size
  refine ⟨h.runes, h.below.trans (hk.below hsz (by simpa using b3)), ?_, h.bld.kept hk (by simpa using b7) (fun k e => by have := (h.osep k e).2.2; simpa using this), ht, ⟨b1, b2, b3, Nat.lt_of_lt_of_le b4 hk.size, b5, b6, b7⟩, h.osep, ?_⟩
  · rw [hk.cell (p := ⟨bl, 0, none⟩) b4 (by simpa using b6)]
    exact h.box
  · intro k e
    obtain ⟨g1, g2, g3, g4, g5, g6⟩ := h.gsep k e
    exact ⟨g1, Nat.lt_of_lt_of_le g2 hk.size, g3, g4, g5, g6⟩
theorem Core.row {w0 : World} {A : Option Addr} {ln : List Nat} {cap bl bb bt : Nat} {o g g' : Option Nat} {txt : List UInt8} {M : Nat → Bool} {w w' : World} (h : Core w0 A ln cap bl bb bt o g txt M w) (hk : Kept g.toList w w') (hg : g' = g ∨ ∃ k, g' = some k ∧ w.heap.size ≤ k ∧ k < w'.heap.size) : Core w0 A ln cap bl bb bt o g' txt M w' := by
  obtain ⟨b1, b2, b3, b4, b5, b6, b7⟩ := h.base
  have hsz := h.below.size
  have ht := h.tal.1
  have hbb := h.bld.lt
  have hol := h.bld.olt
  refine ⟨h.runes, h.below.trans (hk.below hsz (fun k hk' => (h.gsep k (by simpa using hk')).1)), ?_, h.bld.kept hk ?_ ?_, h.tal.kept hk ?_, ⟨b1, b2, b3, Nat.lt_of_lt_of_le b4 hk.size, b5, b6, b7⟩, h.osep, ?_⟩
  · rw [hk.cell (p := ⟨bl, 0, none⟩) b4 (fun hk' => (h.gsep bl (by simpa using hk')).2.2.1 rfl)]
    exact h.box
  · exact fun hk' => (h.gsep bb (by simpa using hk')).2.2.2.1 rfl
  · exact fun k e hk' => (h.gsep k (by simpa using hk')).2.2.2.2.2 e
  · exact fun hk' => (h.gsep bt (by simpa using hk')).2.2.2.2.1 rfl
  · intro k e
    rcases hg with rfl | ⟨k', e', hk1, hk2⟩
    · obtain ⟨g1, g2, g3, g4, g5, g6⟩ := h.gsep k e
      exact ⟨g1, Nat.lt_of_lt_of_le g2 hk.size, g3, g4, g5, g6⟩
    · rw [e] at e'
      cases e'
      refine ⟨by omega, hk2, by omega, by omega, by omega, fun e2 => ?_⟩
      have := hol _ e2
      omega
theorem Core.drewN {w0 : World} {A : Option Addr} {ln : List Nat} {cap bl bb bt : Nat} {o g : Option Nat} {txt : List UInt8} {M : Nat → Bool} {w : World} (h : Core w0 A ln cap bl bb bt o g txt M w) (n : Nat) : Core w0 A ln cap bl bb bt o g txt M (w.drewN n) :=
  ⟨h.runes, below_drewN h.below n, h.box, h.bld, h.tal, h.base, h.osep, h.gsep⟩
theorem Core.rune {w0 : World} {A : Option Addr} {ln : List Nat} {cap bl bb bt : Nat} {o g : Option Nat} {txt : List UInt8} {M : Nat → Bool} {w : World} (h : Core w0 A ln cap bl bb bt o g txt M w) {k : Nat} (hk : k < ln.length) : ∃ b off, A = some ⟨b, off, none⟩ ∧ w.cell? ⟨b, off + k, none⟩ = some (.int .i32 ((ln[k] : Nat) : Int)) := by
  obtain ⟨b, off, e, _, hc⟩ := (h.runes.below h.below) k _ (ints_at ln k hk)
  exact ⟨b, off, e, hc⟩

theorem RowO.shape {v : Value} {O : List Nat} {g : Option Nat} {w : World} (h : RowO v O g w) : (v = .slice none 0 0 ∧ O = []) ∨ ∃ gk c, v = .slice (some ⟨gk, 0, none⟩) O.length c ∧ g = some gk ∧ RowAt gk O w w := by
  obtain ⟨h1, rfl⟩ := h
  rcases h1.2 with ⟨hv, h0⟩ | ⟨gk, cap, cur, hv, _, hg, hn, hc, hcs, htk⟩
  · exact .inl ⟨hv, List.eq_nil_of_length_eq_zero h0⟩
  · refine .inr ⟨gk, cap, hv, by rw [hv]; rfl, ⟨(Array.getElem?_eq_some_iff.1 hg).1, Kept.refl _ _, fun i x hx => ?_⟩⟩
    have hi : i < O.length := (List.getElem?_eq_some_iff.1 hx).1
    refine ⟨?_, Lib.frozen_of_heap hg i⟩
    rw [Lib.cell_of_heap hg]
    have : (cur.toList.take (O.length * 1))[i]? = some (vi x) := by rw [htk, List.getElem?_map, hx]; rfl
    rw [List.getElem?_take, if_pos (by omega)] at this
    rw [← Array.getElem?_toList]
    exact this
/-- Behind so many turns of the second loop. -/
structure Loop2 (w0 : World) (A : Option Addr) (ln : List Nat) (cap bl bb bt : Nat) (o g : Option Nat) (D : List Nat) (t n i bias : Nat) (M : Nat → Bool) (T : List UInt8) (w : World) : Prop where
  core : Core w0 A ln cap bl bb bt o g ((basicOf ln).map UInt8.ofNat ++ (if (basicOf ln).length = 0 then [] else [45]) ++ T) M w
  cell : ∀ (j x : Nat), D[j]? = some x → ∃ gk, g = some gk ∧ w.cell? ⟨gk, j, none⟩ = some (.int .i64 (x : Int))
  run : Run ln M n i bias ((basicOf ln).length + t) T
  left : Left ln M ln.length n i (D.drop t)
  all : ∀ q, q < ln.length → M q = true ∨ q ∈ D.drop t
  count : cnt M ln.length = (basicOf ln).length + t
  bounds : n ≤ 1114111 ∧ i ≤ 500 ∧ bias ≤ 2000000000 ∧ T.length ≤ 10 * t
theorem Core.row_cell {w0 : World} {A : Option Addr} {ln : List Nat} {cap bl bb bt : Nat} {o g : Option Nat} {txt : List UInt8} {M : Nat → Bool} {w w' : World} {S : List Nat} {D : List Nat} (h : Core w0 A ln cap bl bb bt o g txt M w)
    (hc : ∀ (j x : Nat), D[j]? = some x → ∃ gk, g = some gk ∧ w.cell? ⟨gk, j, none⟩ = some (.int .i64 (x : Int))) (hk : Kept S w w') (hs : ∀ k, g = some k → k ∉ S) :
    ∀ (j x : Nat), D[j]? = some x → ∃ gk, g = some gk ∧ w'.cell? ⟨gk, j, none⟩ = some (.int .i64 (x : Int)) := by
  intro j x hx
  obtain ⟨gk, e, hc⟩ := hc j x hx
  exact ⟨gk, e, (hk.cell (p := ⟨gk, j, none⟩) (h.gsep gk e).2.1 (hs gk e)).trans hc⟩
theorem Core.g_bld {w0 : World} {A : Option Addr} {ln : List Nat} {cap bl bb bt : Nat} {o g : Option Nat} {txt : List UInt8} {M : Nat → Bool} {w : World} (h : Core w0 A ln cap bl bb bt o g txt M w) : ∀ k, g = some k → k ∉ bb :: o.toList := by
  intro q e hq
  obtain ⟨s1, s2, s3, s4, s5, s6⟩ := h.gsep q e
  rcases List.mem_cons.1 hq with e2 | hq
  · exact s4 e2
  · exact s6 (by simpa using hq)
theorem Core.g_tal {w0 : World} {A : Option Addr} {ln : List Nat} {cap bl bb bt : Nat} {o g : Option Nat} {txt : List UInt8} {M : Nat → Bool} {w : World} (h : Core w0 A ln cap bl bb bt o g txt M w) : ∀ k, g = some k → k ∉ [bt] :=
  fun q e hq => (h.gsep q e).2.2.2.2.1 (by simpa using hq)
theorem bas_all (ln : List Nat) {D : List Nat} (hD : D.Perm (oth ln ln.length)) : ∀ q, q < ln.length → bas ln ln.length q = true ∨ q ∈ D := by
  intro q hq
  by_cases h : ln.getD q 0 < 128
  · exact .inl (by unfold bas; rw [decide_eq_true hq, decide_eq_true h]; rfl)
  · exact .inr (hD.symm.subset (oth_mem.2 ⟨hq, by omega⟩))
/-- The start of the second loop. -/
theorem Loop2.start {w0 : World} {A : Option Addr} {ln : List Nat} {cap bl bb bt : Nat} {o g : Option Nat} {D : List Nat} {w : World} (hD : D.Perm (oth ln ln.length)) (h : Core w0 A ln cap bl bb bt o g ((basicOf ln).map UInt8.ofNat ++ (if (basicOf ln).length = 0 then [] else [45])) (bas ln ln.length) w)
    (hc : ∀ (j x : Nat), D[j]? = some x → ∃ gk, g = some gk ∧ w.cell? ⟨gk, j, none⟩ = some (.int .i64 (x : Int))) : Loop2 w0 A ln cap bl bb bt o g D 0 128 0 72 (bas ln ln.length) [] w :=
  ⟨by rw [List.append_nil]; exact h, hc, Run.start ln, Left.start hD, bas_all ln hD, cnt_bas ln, by omega, by omega, by omega, by simp⟩
/-- A turn of the second loop. -/
theorem Loop2.next {w0 : World} {A : Option Addr} {ln : List Nat} {cap bl bb bt : Nat} {o o' g : Option Nat} {D : List Nat} {t n i bias p d : Nat} {M : Nat → Bool} {T : List UInt8} {w w1 w2 : World} (h : Loop2 w0 A ln cap bl bb bt o g D t n i bias M T w) (hs : Srt (fun x => (ln.getD x 0 : Int)) D) (hlt : t < D.length) (hp : D[t] = p) (hl : ln.length ≤ 250) (hsc : ∀ c ∈ ln, sc c = true)
    (hd : d = (ln.getD p 0 - n) * (cnt M ln.length + 1) + cnt M p - i) (hd9 : d < 1000000000)
    (hb1 : BldO bb o' ((basicOf ln).map UInt8.ofNat ++ (if (basicOf ln).length = 0 then [] else [45]) ++ T ++ tellK d bias 36) w1) (hb2 : OAt w o o') (hb3 : Kept (bb :: o.toList) w w1) (ht1 : Tally bt ln.length (Go.Proofs.YtfaieldafoeaiaaDoor.mark M p) w2) (ht2 : Kept [bt] w1 w2) :
    Loop2 w0 A ln cap bl bb bt o' g D (t + 1) (ln.getD p 0) (cnt M p + 1) (adapt d ((basicOf ln).length + t + 1) (t == 0)) (Go.Proofs.YtfaieldafoeaiaaDoor.mark M p) (T ++ tellK d bias 36) w2 := by
  have hdrop : D.drop t = p :: D.drop (t + 1) := by rw [List.drop_eq_getElem_cons hlt, hp]
  have hleft := h.left
  rw [hdrop] at hleft
  have hsd : Srt (fun x => (ln.getD x 0 : Int)) (p :: D.drop (t + 1)) := by rw [← hdrop]; exact srt_drop hs t
  obtain ⟨q1, q2, q3, q4⟩ := hleft p (List.mem_cons_self ..)
  have hc1 := h.core.put hb1 hb2 hb3
  have hr := h.run.next hleft hd
  have hbt : ((basicOf ln).length + t == (basicOf ln).length) = (t == 0) := by
    by_cases e : t = 0
    · subst e; simp
    · rw [beq_eq_false_iff_ne.2 e, beq_eq_false_iff_ne.2 (by omega)]
  rw [hbt] at hr
  obtain ⟨r1, r2, r3, r4⟩ := h.bounds
  have hcn := h.count
  have hcp : cnt M p ≤ cnt M ln.length := cnt_mono M (by omega)
  have hclen := cnt_le M ln.length
  refine ⟨?_, ?_, hr, hleft.next hsd, ?_, ?_, ?_, by omega, ?_, ?_⟩
  · rw [← List.append_assoc]
    exact hc1.mark ht1 ht2
  · exact hc1.row_cell (h.core.row_cell h.cell hb3 h.core.g_bld) ht2 hc1.g_tal
  · intro q hq
    rcases h.all q hq with e | e
    · exact .inl (by show (M q || q == p) = true; rw [e]; rfl)
    · rw [hdrop] at e
      rcases List.mem_cons.1 e with rfl | e
      · exact .inl (by show (M q || q == q) = true; simp)
      · exact .inr e
  · rw [cnt_mark M p q2, if_pos q1, hcn]; omega
  · rw [getD_at q1]
    have := sc_lt (hsc _ (List.getElem_mem q1))
    omega
  · have := adapt_le d ((basicOf ln).length + t + 1) (t == 0)
    omega
  · have := tellK_log bias 9 d 36 (by simpa using hd9)
    rw [List.length_append]
    omega

theorem ints_getD (ln : List Nat) : (fun x => (ints ln).getD x 0) = fun x => ((ln.getD x 0 : Nat) : Int) := by
  funext x
  simp only [ints, List.getD_eq_getElem?_getD, List.getElem?_map]
  cases ln[x]? <;> rfl
/-- The sort of the others, and what the second loop starts with. -/
theorem enc_sort {w0 : World} {A : Option Addr} {ln : List Nat} {cap bl bb bt : Nat} {o g : Option Nat} {v : Value} {w : World} (h : Core w0 A ln cap bl bb bt o g ((basicOf ln).map UInt8.ofNat ++ (if (basicOf ln).length = 0 then [] else [45])) (bas ln ln.length) w)
    (hr : RowO v (oth ln ln.length) g w) (hl : ln.length ≤ 250) : ∃ A6 c6, v = .slice A6 (oth ln ln.length).length c6 ∧ (∀ gk, g = some gk → A6 = some ⟨gk, 0, none⟩) ∧
    Calls Tryd.prog 50 #[.slice A6 (oth ln ln.length).length c6, .func (.func 51) #[] #[.pointer (some ⟨bl, 0, none⟩)]] w fun e w5 => e = .returned (.tuple #[]) ∧
      ∃ D, D.length = (oth ln ln.length).length ∧ Srt (fun x => (ln.getD x 0 : Int)) D ∧ Loop2 w0 A ln cap bl bb bt o g D 0 128 0 72 (bas ln ln.length) [] w5 := by
  rcases hr.shape with ⟨rfl, hO⟩ | ⟨gk, c6, rfl, rfl, hrow⟩
  · have hg : g = none := hr.2.symm
    refine ⟨none, 0, by rw [hO]; rfl, by rw [hg]; simp, ?_⟩
    rw [hO]
    refine (sort_none bl 0 none w).mono ?_
    rintro e w5 ⟨rfl, rfl⟩
    refine ⟨rfl, [], rfl, List.Pairwise.nil, Loop2.start (by rw [hO]) h (by simp)⟩
  · refine ⟨some ⟨gk, 0, none⟩, c6, rfl, by rintro gk' e; cases e; rfl, ?_⟩
    obtain ⟨s1, s2, s3, s4, s5, s6⟩ := h.gsep gk rfl
    have hC := q2_any bl A (ints ln) cap gk w (by rw [ints_length]; exact h.box) h.base.2.2.2.1 (Ne.symm s3) (h.runes.below h.below) (fun j c hj => by
      obtain ⟨b, off, e, hb, _⟩ := h.runes j c hj
      exact ⟨b, off, e, by omega⟩)
    rw [ints_length, ints_getD] at hC
    have hol := oth_le ln ln.length
    refine (sort_any _ bl gk c6 (oth ln ln.length).length ln.length (oth ln ln.length) w w (Lib.hid hC) (fun x hx => (oth_mem.1 hx).1) rfl (by omega) (oth_sorted ln ln.length) hrow).mono ?_
    rintro e w5 ⟨rfl, D, hD1, hD2, hD3⟩
    exact ⟨rfl, D, hD1.length_eq, hD2, Loop2.start hD1 (h.row hD3.kept (.inl rfl)) (fun j x hj => ⟨gk, rfl, hD3.c hj⟩)⟩
end Go.Proofs.YtfaieldafoeaiaaDoor

/-
  Encode, of scalars.
-/
namespace Go.Proofs.YtfaieldafoeaiaaDoor
open Go.RowKit

theorem take_basic {ln : List Nat} {k : Nat} (h : k < ln.length) (hs : ln[k] < 128) : (basicOf (ln.take (k + 1))).map UInt8.ofNat = (basicOf (ln.take k)).map UInt8.ofNat ++ [UInt8.ofNat ln[k]] := by
  rw [List.take_succ_eq_append_getElem h, basicOf, basicOf, List.filter_append]
  simp [hs]
theorem take_basic' {ln : List Nat} {k : Nat} (h : k < ln.length) (hs : ¬ ln[k] < 128) : basicOf (ln.take (k + 1)) = basicOf (ln.take k) := by
  rw [List.take_succ_eq_append_getElem h, basicOf, basicOf, List.filter_append]
  simp [hs]
theorem beq0_cast (a : Nat) : ((a : Int) == 0) = (a == 0) := by
  by_cases h : a = 0
  · subst h; rfl
  · rw [beq_eq_false_iff_ne.2 h, beq_eq_false_iff_ne.2 (by omega)]
theorem basic_le (l : List Nat) : (basicOf l).length ≤ l.length := List.length_filter_le _ _

/-- The builder, as one of the call's own. -/
theorem is_from {w0 : World} {A : Option Addr} {ln : List Nat} {cap bl bb bt : Nat} {o g : Option Nat} {txt t2 : List UInt8} {M : Nat → Bool} {w : World} (h : Core w0 A ln cap bl bb bt o g txt M w) (e : txt = t2) : Lib.IsBuilder 40 5 w0.heap.size bb (Lib.byteCells t2) w := by
  subst e
  have hb := h.base.2.1
  have ho := h.osep
  obtain ⟨p, v, hp, hbk, hown, rfl, hne⟩ := h.bld
  have hown' : w.ownsRow w0.heap.size 5 1 v txt.length (Lib.byteCells txt) := by
    refine ⟨hown.1, ?_⟩
    rcases hown.2 with h2 | ⟨gk, cap, cur, rfl, _, r⟩
    · exact .inl h2
    · exact .inr ⟨gk, cap, cur, rfl, (ho gk rfl).1, r⟩
  rcases hp with rfl | rfl
  · exact .inl ⟨hb, v, hbk, by rw [byteCells_len]; exact hown', hne⟩
  · exact .inr ⟨hb, v, hbk, by rw [byteCells_len]; exact hown', hne⟩

set_option maxHeartbeats 1000000 in
set_option maxRecDepth 100000 in
theorem enc_ok (A : Option Addr) (ln : List Nat) (cap : Nat) (w : World) (h : Runes w A (ints ln)) (hs : ∀ c ∈ ln, sc c = true) (hl : ln.length ≤ 250) :
    Calls Tryd.prog 28 #[.slice A ln.length cap] w (EncOk ln w) := by
  have HS := Lib.hid hs
  have HR := Lib.hid h
  have HC := qcontains_any A (ints ln) cap (w.alloc (.cells #[.slice A ln.length cap] 22)) (h.below ((Below.refl _ _).alloc (Nat.le_refl _) _)) (fun c hc => by
    have := (scal_iff c).1 (ints_scal hs c hc); omega) (by rw [ints_length]; omega)
  rw [anyBad_no (ints_scal hs), ints_length] at HC
  obtain ⟨w1, hw1, htal, hkt, hsz⟩ := tally_made ((w.alloc (.cells #[.slice A ln.length cap] 22)).alloc (.cells #[.pointer none, .slice none 0 0] 40)) ln.length (by omega)
  rw [show ((w.alloc (.cells #[.slice A ln.length cap] 22)).alloc (.cells #[.pointer none, .slice none 0 0] 40)).heap.size = w.heap.size + 2 by simp] at htal hw1 hsz
  have HCore : Hid (Core w A ln cap w.heap.size (w.heap.size + 1) (w.heap.size + 2) none none [] (bas ln 0) w1) := by
    rw [bas_none]
    have hb2 : ((w.alloc (.cells #[.slice A ln.length cap] 22)).alloc (.cells #[.pointer none, .slice none 0 0] 40)).heap[w.heap.size + 1]? = some (.cells #[.pointer none, .slice none 0 0] 40 (0, 0)) := by
      have := heap_alloc_new (w.alloc (.cells #[.slice A ln.length cap] 22)) (.cells #[.pointer none, .slice none 0 0] 40)
      rwa [show (w.alloc (.cells #[.slice A ln.length cap] 22)).heap.size = w.heap.size + 1 by simp] at this
    refine ⟨h, (((Below.refl _ _).alloc (Nat.le_refl _) _).alloc (by simp) _).trans (hkt.below (by simp; omega) (by simp)), ?_, ⟨.pointer none, .slice none 0 0, .inl rfl, ?_, World.ownsRow_nil _ _ _ _, rfl, by simp⟩, htal, ⟨by omega, by omega, by omega, by omega, by omega, by omega, by omega⟩, by simp, by simp⟩
    · rw [hkt.cell (p := ⟨w.heap.size, 0, none⟩) (by simp; omega) (by simp)]
      rw [World.cell?_alloc_past _ _ _ (by simp), World.cell?_alloc_at _ _ _ _ (by simp)]; rfl
    · exact (hkt.block _ (by simp) (by simp)).trans hb2
  clear hs h htal hkt
  have hsz2 := HCore.out.below.size
  have c31 := HCore.out.box
  go_enter Tryd.func28, Tryd.ntmps28
  go_wp2_with (first
    | (go_at_call 24; refine HC.mono ?_; rintro e w' ⟨rfl, rfl⟩))
  clear HC hw1 hsz hsz2 c31
  go_loopw [6, 33] (fun v k wr => ∃ (kk : Nat) (o g : Option Nat), k = .int .i64 kk ∧ kk ≤ ln.length ∧ Core w A ln cap w.heap.size (w.heap.size + 1) (w.heap.size + 2) o g ((basicOf (ln.take kk)).map UInt8.ofNat) (bas ln kk) wr ∧ RowO v (oth ln kk) g wr) (fun _ k _ => ln.length - (intOf k).toNat)
  case atStart => exact ⟨0, none, none, rfl, Nat.zero_le _, HCore.out, ⟨World.ownsRow_nil _ _ _ _, rfl⟩⟩
  case round =>
    obtain ⟨k, o, g, rfl, hk, hcore, hrow⟩ := hrel
    clear HCore
    have HK := Lib.hid hcore
    have HW := Lib.hid hrow
    clear hrow
    by_cases hlt : k < ln.length
    · obtain ⟨b, off, rfl, hck⟩ := hcore.rune hlt
      have hsc := sc_lt (HS.out _ (List.getElem_mem hlt))
      clear hcore
      obtain ⟨c, hc⟩ : ∃ c, ln[k] = c := ⟨_, rfl⟩
      rw [hc] at hck hsc
      by_cases hc8 : c < 128
      · have HN : Hid ((basicOf (ln.take (k + 1))).map UInt8.ofNat = (basicOf (ln.take k)).map UInt8.ofNat ++ [UInt8.ofNat c] ∧ mark (bas ln k) k = bas ln (k + 1) ∧ oth ln (k + 1) = oth ln k) := by
          subst hc
          exact ⟨take_basic hlt hc8, bas_small hlt hc8, oth_small hlt hc8⟩
        clear hc
        have hbl : ((basicOf (ln.take k)).map UInt8.ofNat).length + 1 ≤ 1000000 := by
          have := basic_le (ln.take k)
          rw [List.length_map]
          rw [List.length_take] at this
          omega
        have HB := Lib.hid hbl
        clear hbl
        go_wp2_with (first
          | (go_at_call 14
             refine (bldo_byte (w.heap.size + 1) o _ (UInt8.ofNat c) _ _ HK.out.bld (by rw [ofNat_toNat c (by omega)]) HB.out).mono ?_
             rintro e w2 ⟨rfl, o', hb1, hb2, hb3⟩
             have HK2 := Lib.hid (HK.out.put hb1 hb2 hb3)
             have HW2 := Lib.hid (HW.out.kept hb3 (fun q e hq => by
               obtain ⟨s1, s2, s3, s4, s5, s6⟩ := HK.out.gsep q e
               rcases List.mem_cons.1 hq with e2 | hq
               · exact s4 e2
               · exact s6 (by simpa using hq)))
             clear hb1 hb2 hb3)
          | (go_at_call 49
             refine (qmark_any (w.heap.size + 2) ln.length k (bas ln k) _ (by omega) hlt (bas_here ln k) HK2.out.tal).mono ?_
             rintro e w3 ⟨rfl, ht1, ht2⟩
             have HK3 := Lib.hid (HK2.out.mark ht1 ht2)
             have HW3 := Lib.hid (HW2.out.kept ht2 (fun q e hq => (HK2.out.gsep q e).2.2.2.2.1 (by simpa using hq)))
             clear ht1 ht2))
        go_roundw
        case rel => exact ⟨k + 1, o', g, by go_num, hlt, by rw [HN.out.1, ← HN.out.2.1]; exact HK3.out, by rw [HN.out.2.2]; exact HW3.out⟩
        case measure => simp [intOf]; omega
      · have HN : Hid (basicOf (ln.take (k + 1)) = basicOf (ln.take k) ∧ bas ln k = bas ln (k + 1) ∧ oth ln (k + 1) = oth ln k ++ [k]) := by
          subst hc
          exact ⟨take_basic' hlt hc8, bas_great hlt hc8, oth_great hlt hc8⟩
        clear hc
        have hol := oth_le ln k
        go_wp2_with (at_builtin
                     refine oth_append rfl (.tmp 40) (.tmp 42) rfl _ (oth ln k) g k rfl rfl HW.out (by omega) ?_
                     intro v' w2 g' hr2 hk2 hg2
                     have HK2 := Lib.hid (HK.out.row hk2 hg2)
                     have HW2 := Lib.hid hr2
                     clear hr2 hk2 hg2)
        go_roundw
        case rel => exact ⟨k + 1, o, g', by go_num, hlt, by rw [HN.out.1, ← HN.out.2.1]; exact HK2.out, by rw [HN.out.2.2]; exact HW2.out⟩
        case measure => simp [intOf]; omega
    · obtain rfl : k = ln.length := by omega
      clear hcore
      rw [List.take_length] at HK
      have hbo := bas_oth ln ln.length (Nat.le_refl _)
      rw [List.take_length] at hbo
      have hlen := HK.out.bld.is
      have HLen := qlen_any 0 (w.heap.size + 1) _ wr hlen
      clear hlen
      rw [List.length_map] at HLen
      obtain ⟨N, hN⟩ : ∃ N, (oth ln ln.length).length = N := ⟨_, rfl⟩
      rw [hN] at hbo
      have hsub : (ln.length : Int) - (N : Int) = ((basicOf ln).length : Int) := by omega
      have hol : N ≤ 250 := by omega
      have HN := Lib.hid hN
      clear hN hbo
      have hbx := HK.out.box
      by_cases hB : (basicOf ln).length = 0
      · have HK2 : Hid (Core w A ln cap w.heap.size (w.heap.size + 1) (w.heap.size + 2) o g ((basicOf ln).map UInt8.ofNat ++ (if (basicOf ln).length = 0 then [] else [45])) (bas ln ln.length) wr) := by
          show (Core w A ln cap w.heap.size (w.heap.size + 1) (w.heap.size + 2) o g ((basicOf ln).map UInt8.ofNat ++ (if (basicOf ln).length = 0 then [] else [45])) (bas ln ln.length) wr)
          rw [if_pos hB, List.append_nil]; exact HK.out
        have hB0 : ¬ (0 : Int) < ((basicOf ln).length : Int) := by omega
        clear hB HK
        have HW2 := Lib.hid HW.out
        obtain ⟨A6, c6, rfl, hA6, HSort⟩ := enc_sort HK2.out HW2.out hl
        have HA6 := Lib.hid hA6
        clear hA6
        rw [HN.out] at HSort ⊢
        go_wp2_with (first
          | (go_at_call 16; refine HLen.mono ?_; rintro e w' ⟨rfl, rfl⟩)
          | (go_at_call 50; refine HSort.mono ?_; rintro e w5 ⟨rfl, D, hD1, hD2, hD3⟩; have HL := Lib.hid hD3; have HDs := Lib.hid (And.intro hD1 hD2); have hbx5 := hD3.core.box; clear hD1 hD2 hD3))
        have hN2 := HDs.out.1
        subst hN2
        clear HSort HLen hbx
        go_loopw [9, 10, 11, 12, 64] (fun v9 v10 v11 v12 k wr => ∃ (t n i bias : Nat) (M : Nat → Bool) (T : List UInt8) (o : Option Nat), v9 = .int .i64 (((basicOf ln).length + t : Nat) : Int) ∧ v10 = .int .i64 n ∧ v11 = .int .i64 i ∧ v12 = .int .i64 bias ∧ k = .int .i64 t ∧ t ≤ D.length ∧ Loop2 w A ln cap w.heap.size (w.heap.size + 1) (w.heap.size + 2) o g D t n i bias M T wr) (fun _ _ _ _ k _ => D.length - (intOf k).toNat)
        case atStart => exact ⟨0, 128, 0, 72, _, [], _, by first | rfl | go_num, rfl, rfl, rfl, rfl, Nat.zero_le _, HL.out⟩
        case round =>
          obtain ⟨t, n, i, bias, M, T, o, rfl, rfl, rfl, rfl, rfl, ht, hloop⟩ := hrel
          clear HL hbx5 HK2 HW
          have HL := Lib.hid hloop
          obtain ⟨hn0, hi0, hbi0, hT0⟩ := hloop.bounds
          have hcn := hloop.count
          have hclen := cnt_le M ln.length
          have hBt : (basicOf ln).length + t ≤ 250 := by omega
          clear hclen
          have hpl : ((basicOf ln).map UInt8.ofNat ++ (if (basicOf ln).length = 0 then [] else [45]) ++ T).length ≤ 900000 := by
            rw [List.length_append, List.length_append, List.length_map]
            split <;> simp <;> omega
          have HPl := Lib.hid hpl
          clear hpl
          by_cases hlt : t < D.length
          · obtain ⟨p, hp⟩ : ∃ p, D[t] = p := ⟨_, rfl⟩
            obtain ⟨gk, hgk, hcp⟩ := hloop.cell t p (by rw [List.getElem?_eq_getElem hlt, hp])
            obtain rfl := HA6.out gk hgk
            have hdrop : D.drop t = p :: D.drop (t + 1) := by rw [List.drop_eq_getElem_cons hlt, hp]
            have hleft := hloop.left
            rw [hdrop] at hleft
            obtain ⟨q1, q2, q3, q4⟩ := hleft p (List.mem_cons_self ..)
            obtain ⟨b, off, rfl, hrune⟩ := hloop.core.rune q1
            have hbox := hloop.core.box
            have hcm : cnt M p ≤ cnt M ln.length := cnt_mono M (by omega)
            rw [hcn] at q4 hcm
            rw [getD_at q1] at q3 q4
            have hsc := sc_lt (HS.out _ (List.getElem_mem q1))
            obtain ⟨c, hc⟩ : ∃ c, ln[p] = c := ⟨_, rfl⟩
            rw [hc] at hrune q3 q4 hsc
            obtain ⟨h1, hh1⟩ : ∃ h1, (basicOf ln).length + t = h1 := ⟨_, rfl⟩
            rw [hh1] at hcm q4 hBt hcn
            obtain ⟨a, haa⟩ : ∃ a, cnt M p = a := ⟨_, rfl⟩
            rw [haa] at hcm q4
            obtain ⟨P, hP⟩ : ∃ P, (c - n) * (h1 + 1) = P := ⟨_, rfl⟩
            rw [hP] at q4
            have hPb : P ≤ 1114112 * 251 := by
              rw [← hP]
              exact Nat.mul_le_mul (by omega) (by omega)
            have hPi : ((c : Int) - (n : Int)) * ((h1 : Int) + 1) = (P : Int) := by
              rw [← hP, Int.natCast_mul]
              congr 1
              omega
            have hAh : ∀ m, Calls Tryd.prog 53 #[.slice (some ⟨w.heap.size + 2, 0, none⟩) (ln.length + 1) (ln.length + 1), .int .i64 p] (wr.drewN m) fun e w' => e = .returned (.int .i64 a) ∧ w' = wr.drewN m := by
              intro m
              have := qahead_any (w.heap.size + 2) ln.length p M (wr.drewN m) (by omega) (by omega) (hloop.core.drewN m).tal
              rw [haa] at this
              exact this.mono fun _ _ ⟨he, hw⟩ => ⟨he, hw.symm⟩
            have HQ : Hid (D[t] = p ∧ M p = false ∧ cnt M ln.length = h1 ∧ ln.getD p 0 = c ∧ cnt M p = a ∧ (c - n) * (h1 + 1) = P ∧ (basicOf ln).length + t = h1) := ⟨hp, q2, hcn, by rw [getD_at q1, hc], haa, hP, hh1⟩
            obtain ⟨d, hd⟩ : ∃ d, d = P + a - i := ⟨_, rfl⟩
            have hdi : (P : Int) + (a : Int) - (i : Int) = (d : Int) := by omega
            have hdb : d < 1000000000 := by omega
            have HD9 : Hid (d = P + a - i) := hd
            have htb : ((t : Int) == 0) = (t == 0) := beq0_cast t
            have hhh : (((basicOf ln).length : Nat) : Int) + (t : Int) = (h1 : Int) := by omega
            clear hdrop hleft hcn hc haa hP hd hp hloop q2 hh1 hgk
            have HAh := Lib.hid hAh
            clear hAh
            obtain ⟨tb, htb2⟩ : ∃ tb, (t == 0) = tb := ⟨_, rfl⟩
            have HTB := Lib.hid htb2
            rw [htb2] at htb
            clear htb2
            go_wp2_with fail
            go_quiet ((go_at_call 53; exact Calls.quiet_of_same (HAh.out _)))
            have HL2 : Hid (Core w (some ⟨b, off, none⟩) ln cap w.heap.size (w.heap.size + 1) (w.heap.size + 2) o g _ M (wr.drewN nq)) := HL.out.core.drewN nq
            clear hcp hrune hbox HAh
            go_wp2_with (first
              | (go_at_call 54
                 refine (qtell_any (w.heap.size + 1) o _ d bias _ _ _ rfl rfl hdb (by omega) HL2.out.bld HPl.out).mono ?_
                 rintro e w6 ⟨rfl, o6, hb1, hb2, hb3⟩
                 have HT := Lib.hid (And.intro hb1 (And.intro hb2 hb3))
                 clear hb1 hb2 hb3)
              | (go_at_call 55
                 refine (qadapt_any d (h1 + 1) tb _ _ _ rfl (by omega) (by omega) (by omega) (by omega)).mono ?_
                 rintro e w' ⟨rfl, rfl⟩)
              | (go_at_call 49
                 refine (qmark_any (w.heap.size + 2) ln.length p M _ (by omega) q1 HQ.out.2.1 (HL2.out.put HT.out.1 HT.out.2.1 HT.out.2.2).tal).mono ?_
                 rintro e w7 ⟨rfl, ht1, ht2⟩
                 have HM := Lib.hid (And.intro ht1 ht2)
                 clear ht1 ht2))
            go_roundw
            case rel =>
              obtain ⟨e1, e2, e3, e4, e5, e6, e7⟩ := HQ.out
              have hl2 : Loop2 w (some ⟨b, off, none⟩) ln cap w.heap.size (w.heap.size + 1) (w.heap.size + 2) o g D t n i bias M T (wr.drewN nq) := ⟨HL2.out, HL.out.cell, HL.out.run, HL.out.left, HL.out.all, HL.out.count, HL.out.bounds⟩
              have hnx := hl2.next HDs.out.2 hlt e1 hl HS.out (by rw [e3, e4, e5, e6]; exact HD9.out) hdb HT.out.1 HT.out.2.1 HT.out.2.2 HM.out.1 HM.out.2
              rw [e4, e5, HTB.out, e7] at hnx
              exact ⟨t + 1, c, a + 1, _, _, _, _, by go_num, by go_num, by go_num, rfl, by go_num, hlt, hnx⟩
            case measure => simp [intOf]; omega
          · obtain rfl : t = D.length := by omega
            have HF : Hid ((basicOf ln).map UInt8.ofNat ++ (if (basicOf ln).length = 0 then [] else [45]) ++ T = penc ln) := by
              refine HL.out.run.done HS.out (fun q hq => ?_)
              rcases HL.out.all q hq with e | e
              · exact e
              · rw [List.drop_length] at e; cases e
            have HBl := HL.out.core.bld
            rw [HF.out] at HBl
            have HBl := Lib.hid HBl.is
            have HBw := Lib.hid HL.out.core.below
            clear hloop hcn
            go_wp2_with (go_at_call 17; refine (bld_string w.heap.size (w.heap.size + 1) (penc ln) _ (is_from HL.out.core HF.out) HBw.out.size).mono ?_; rintro e w8 ⟨rfl, hb8⟩; have HB8 := Lib.hid hb8; clear hb8)
            go_ret2
            exact ⟨rfl, HBw.out.trans HB8.out⟩
      · have hB0 : (0 : Int) < ((basicOf ln).length : Int) := by omega
        obtain ⟨A60, c60, hv60⟩ : ∃ A6 c6, u6 = .slice A6 N c6 := by
          obtain ⟨A6, c6, hv, _⟩ : ∃ A6 c6, u6 = .slice A6 (oth ln ln.length).length c6 ∧ True := by
            rcases HW.out.shape with ⟨e, e2⟩ | ⟨gk, c6, e, _⟩
            · exact ⟨none, 0, by rw [e, e2]; rfl, trivial⟩
            · exact ⟨_, c6, e, trivial⟩
          exact ⟨A6, c6, by rw [hv, HN.out]⟩
        subst hv60
        have hbl : ((basicOf ln).map UInt8.ofNat).length + 1 ≤ 1000000 := by
          have := basic_le ln
          rw [List.length_map]
          omega
        have HBL := Lib.hid hbl
        clear hbl
        have HB := Lib.hid hB
        clear hB
        go_wp2_with (first
          | (go_at_call 16; refine HLen.mono ?_; rintro e w' ⟨rfl, rfl⟩)
          | (go_at_call 14
             refine (bldo_byte (w.heap.size + 1) o _ 45 _ _ HK.out.bld rfl HBL.out).mono ?_
             rintro e w2 ⟨rfl, o', hb1, hb2, hb3⟩
             have HK2 : Hid (Core w A ln cap w.heap.size (w.heap.size + 1) (w.heap.size + 2) o' g ((basicOf ln).map UInt8.ofNat ++ (if (basicOf ln).length = 0 then [] else [45])) (bas ln ln.length) w2) := by
               show (Core w A ln cap w.heap.size (w.heap.size + 1) (w.heap.size + 2) o' g ((basicOf ln).map UInt8.ofNat ++ (if (basicOf ln).length = 0 then [] else [45])) (bas ln ln.length) w2)
               rw [if_neg HB.out]
               exact HK.out.put hb1 hb2 hb3
             have HW2 := Lib.hid (HW.out.kept hb3 HK.out.g_bld)
             obtain ⟨A6, c6, hv6, hA6, HSort⟩ := enc_sort HK2.out HW2.out hl
             rw [HN.out] at HSort hv6
             cases hv6
             have HA6 := Lib.hid hA6
             clear hA6 hb1 hb2 hb3)
          | (go_at_call 50; refine HSort.mono ?_; rintro e w5 ⟨rfl, D, hD1, hD2, hD3⟩; have HL := Lib.hid hD3; have HDs := Lib.hid (And.intro hD1 hD2); have hbx5 := hD3.core.box; clear hD1 hD2 hD3))
        have hN2 := HDs.out.1
        subst hN2
        clear HSort HLen hbx
        go_loopw [9, 10, 11, 12, 64] (fun v9 v10 v11 v12 k wr => ∃ (t n i bias : Nat) (M : Nat → Bool) (T : List UInt8) (o : Option Nat), v9 = .int .i64 (((basicOf ln).length + t : Nat) : Int) ∧ v10 = .int .i64 n ∧ v11 = .int .i64 i ∧ v12 = .int .i64 bias ∧ k = .int .i64 t ∧ t ≤ D.length ∧ Loop2 w A ln cap w.heap.size (w.heap.size + 1) (w.heap.size + 2) o g D t n i bias M T wr) (fun _ _ _ _ k _ => D.length - (intOf k).toNat)
        case atStart => exact ⟨0, 128, 0, 72, _, [], _, by first | rfl | go_num, rfl, rfl, rfl, rfl, Nat.zero_le _, HL.out⟩
        case round =>
          obtain ⟨t, n, i, bias, M, T, o, rfl, rfl, rfl, rfl, rfl, ht, hloop⟩ := hrel
          clear HL hbx5 HK2 HW
          have HL := Lib.hid hloop
          obtain ⟨hn0, hi0, hbi0, hT0⟩ := hloop.bounds
          have hcn := hloop.count
          have hclen := cnt_le M ln.length
          have hBt : (basicOf ln).length + t ≤ 250 := by omega
          clear hclen
          have hpl : ((basicOf ln).map UInt8.ofNat ++ (if (basicOf ln).length = 0 then [] else [45]) ++ T).length ≤ 900000 := by
            rw [List.length_append, List.length_append, List.length_map]
            split <;> simp <;> omega
          have HPl := Lib.hid hpl
          clear hpl
          by_cases hlt : t < D.length
          · obtain ⟨p, hp⟩ : ∃ p, D[t] = p := ⟨_, rfl⟩
            obtain ⟨gk, hgk, hcp⟩ := hloop.cell t p (by rw [List.getElem?_eq_getElem hlt, hp])
            obtain rfl := HA6.out gk hgk
            have hdrop : D.drop t = p :: D.drop (t + 1) := by rw [List.drop_eq_getElem_cons hlt, hp]
            have hleft := hloop.left
            rw [hdrop] at hleft
            obtain ⟨q1, q2, q3, q4⟩ := hleft p (List.mem_cons_self ..)
            obtain ⟨b, off, rfl, hrune⟩ := hloop.core.rune q1
            have hbox := hloop.core.box
            have hcm : cnt M p ≤ cnt M ln.length := cnt_mono M (by omega)
            rw [hcn] at q4 hcm
            rw [getD_at q1] at q3 q4
            have hsc := sc_lt (HS.out _ (List.getElem_mem q1))
            obtain ⟨c, hc⟩ : ∃ c, ln[p] = c := ⟨_, rfl⟩
            rw [hc] at hrune q3 q4 hsc
            obtain ⟨h1, hh1⟩ : ∃ h1, (basicOf ln).length + t = h1 := ⟨_, rfl⟩
            rw [hh1] at hcm q4 hBt hcn
            obtain ⟨a, haa⟩ : ∃ a, cnt M p = a := ⟨_, rfl⟩
            rw [haa] at hcm q4
            obtain ⟨P, hP⟩ : ∃ P, (c - n) * (h1 + 1) = P := ⟨_, rfl⟩
            rw [hP] at q4
            have hPb : P ≤ 1114112 * 251 := by
              rw [← hP]
              exact Nat.mul_le_mul (by omega) (by omega)
            have hPi : ((c : Int) - (n : Int)) * ((h1 : Int) + 1) = (P : Int) := by
              rw [← hP, Int.natCast_mul]
              congr 1
              omega
            have hAh : ∀ m, Calls Tryd.prog 53 #[.slice (some ⟨w.heap.size + 2, 0, none⟩) (ln.length + 1) (ln.length + 1), .int .i64 p] (wr.drewN m) fun e w' => e = .returned (.int .i64 a) ∧ w' = wr.drewN m := by
              intro m
              have := qahead_any (w.heap.size + 2) ln.length p M (wr.drewN m) (by omega) (by omega) (hloop.core.drewN m).tal
              rw [haa] at this
              exact this.mono fun _ _ ⟨he, hw⟩ => ⟨he, hw.symm⟩
            have HQ : Hid (D[t] = p ∧ M p = false ∧ cnt M ln.length = h1 ∧ ln.getD p 0 = c ∧ cnt M p = a ∧ (c - n) * (h1 + 1) = P ∧ (basicOf ln).length + t = h1) := ⟨hp, q2, hcn, by rw [getD_at q1, hc], haa, hP, hh1⟩
            obtain ⟨d, hd⟩ : ∃ d, d = P + a - i := ⟨_, rfl⟩
            have hdi : (P : Int) + (a : Int) - (i : Int) = (d : Int) := by omega
            have hdb : d < 1000000000 := by omega
            have HD9 : Hid (d = P + a - i) := hd
            have htb : ((t : Int) == 0) = (t == 0) := beq0_cast t
            have hhh : (((basicOf ln).length : Nat) : Int) + (t : Int) = (h1 : Int) := by omega
            clear hdrop hleft hcn hc haa hP hd hp hloop q2 hh1 hgk
            have HAh := Lib.hid hAh
            clear hAh
            obtain ⟨tb, htb2⟩ : ∃ tb, (t == 0) = tb := ⟨_, rfl⟩
            have HTB := Lib.hid htb2
            rw [htb2] at htb
            clear htb2
            go_wp2_with fail
            go_quiet ((go_at_call 53; exact Calls.quiet_of_same (HAh.out _)))
            have HL2 : Hid (Core w (some ⟨b, off, none⟩) ln cap w.heap.size (w.heap.size + 1) (w.heap.size + 2) o g _ M (wr.drewN nq)) := HL.out.core.drewN nq
            clear hcp hrune hbox HAh
            go_wp2_with (first
              | (go_at_call 54
                 refine (qtell_any (w.heap.size + 1) o _ d bias _ _ _ rfl rfl hdb (by omega) HL2.out.bld HPl.out).mono ?_
                 rintro e w6 ⟨rfl, o6, hb1, hb2, hb3⟩
                 have HT := Lib.hid (And.intro hb1 (And.intro hb2 hb3))
                 clear hb1 hb2 hb3)
              | (go_at_call 55
                 refine (qadapt_any d (h1 + 1) tb _ _ _ rfl (by omega) (by omega) (by omega) (by omega)).mono ?_
                 rintro e w' ⟨rfl, rfl⟩)
              | (go_at_call 49
                 refine (qmark_any (w.heap.size + 2) ln.length p M _ (by omega) q1 HQ.out.2.1 (HL2.out.put HT.out.1 HT.out.2.1 HT.out.2.2).tal).mono ?_
                 rintro e w7 ⟨rfl, ht1, ht2⟩
                 have HM := Lib.hid (And.intro ht1 ht2)
                 clear ht1 ht2))
            go_roundw
            case rel =>
              obtain ⟨e1, e2, e3, e4, e5, e6, e7⟩ := HQ.out
              have hl2 : Loop2 w (some ⟨b, off, none⟩) ln cap w.heap.size (w.heap.size + 1) (w.heap.size + 2) o g D t n i bias M T (wr.drewN nq) := ⟨HL2.out, HL.out.cell, HL.out.run, HL.out.left, HL.out.all, HL.out.count, HL.out.bounds⟩
              have hnx := hl2.next HDs.out.2 hlt e1 hl HS.out (by rw [e3, e4, e5, e6]; exact HD9.out) hdb HT.out.1 HT.out.2.1 HT.out.2.2 HM.out.1 HM.out.2
              rw [e4, e5, HTB.out, e7] at hnx
              exact ⟨t + 1, c, a + 1, _, _, _, _, by go_num, by go_num, by go_num, rfl, by go_num, hlt, hnx⟩
            case measure => simp [intOf]; omega
          · obtain rfl : t = D.length := by omega
            have HF : Hid ((basicOf ln).map UInt8.ofNat ++ (if (basicOf ln).length = 0 then [] else [45]) ++ T = penc ln) := by
              refine HL.out.run.done HS.out (fun q hq => ?_)
              rcases HL.out.all q hq with e | e
              · exact e
              · rw [List.drop_length] at e; cases e
            have HBl := HL.out.core.bld
            rw [HF.out] at HBl
            have HBl := Lib.hid HBl.is
            have HBw := Lib.hid HL.out.core.below
            clear hloop hcn
            go_wp2_with (go_at_call 17; refine (bld_string w.heap.size (w.heap.size + 1) (penc ln) _ (is_from HL.out.core HF.out) HBw.out.size).mono ?_; rintro e w8 ⟨rfl, hb8⟩; have HB8 := Lib.hid hb8; clear hb8)
            go_ret2
            exact ⟨rfl, HBw.out.trans HB8.out⟩
end Go.Proofs.YtfaieldafoeaiaaDoor

/-
  isASCII, the last hyphen, and what is thrown off.
-/
namespace Go.Proofs.YtfaieldafoeaiaaDoor
open Go.RowKit

/-- All bytes are below 128. -/
def ascB (s : ByteArray) : Bool := !(s.data.toList.any fun b => decide (128 ≤ b.toNat))
theorem dec_low (s : ByteArray) (p : Nat) (h : p < s.size) (hb : (s[p]'h).toNat < 128) : Utf8.decode s p = ((s[p]'h).toNat, 1) := by
  rw [Lib.decode_at]
  have e : s.get! p = s[p]'h := getElem!_pos s.data p h
  rw [e]
  unfold Lib.decodeN
  rw [if_pos hb]
theorem dec_high (s : ByteArray) (p : Nat) (h : p < s.size) (hb : ¬ (s[p]'h).toNat < 128) : 128 ≤ (Utf8.decode s p).1 := by
  rw [Lib.decode_at]
  have e : s.get! p = s[p]'h := getElem!_pos s.data p h
  rw [e]
  unfold Lib.decodeN
  rw [if_neg hb]
  repeat' split
  all_goals (simp only; omega)
theorem asc_no {s : ByteArray} {p : Nat} (h : p < s.size) (hb : ¬ (s[p]'h).toNat < 128) : ascB s = false := by
  unfold ascB
  rw [Bool.not_eq_false', List.any_eq_true]
  exact ⟨s[p]'h, Array.getElem_mem_toList (xs := s.data) h, decide_eq_true (by omega)⟩
theorem asc_yes {s : ByteArray} (h : ∀ b ∈ s.data.toList.take s.size, b.toNat < 128) : ascB s = true := by
  unfold ascB
  rw [Bool.not_eq_true', List.any_eq_false]
  intro b hb
  have := h b (by rw [List.take_of_length_le (by simp)]; exact hb)
  simp; omega

set_option maxHeartbeats 1000000 in
set_option maxRecDepth 100000 in
theorem q42_any (c : Nat) (w : World) (hc : c ≤ 1114111) :
    Calls Tryd.prog 76 #[.int .i32 (c : Int)] w fun e w' => e = .returned (.bool (decide (128 ≤ c))) ∧ w = w' := by
  go_enter Tryd.func76, Tryd.ntmps76
  go_wp2
  go_ret
  refine ⟨ret_bool ?_, rfl⟩
  rw [Bool.eq_iff_iff]
  simp
  try omega

set_option maxHeartbeats 1000000 in
set_option maxRecDepth 100000 in
theorem qidx_any (s : ByteArray) (w : World) (hs : s.size ≤ 1000000) :
    Calls Tryd.prog 82 #[.string s, .func (.func 76) #[] #[], .bool true] w fun e w' => ∃ r : Int, e = .returned (.int .i64 r) ∧ decide (r < 0) = ascB s ∧ Below w.heap.size w w' := by
  go_enter Tryd.func82, Tryd.ntmps82
  go_wp2
  go_loopg [] s.size (fun gf wx => ∃ pos : Nat, wx.heap[w.heap.size]? = some (.stringIter s pos) ∧ Below w.heap.size w wx ∧ pos ≤ s.size ∧ (∀ b ∈ s.data.toList.take pos, b.toNat < 128) ∧ s.size ≤ pos + gf)
  case atStart => exact ⟨0, World.iter_heap w s 0, (Below.refl _ w).alloc (Nat.le_refl _) _, by omega, by simp, by omega⟩
  case round =>
    obtain ⟨pos, hit, hbw, hps0, hall, hfu⟩ := hrel
    have HA := Lib.hid hall
    clear hall
    by_cases hps : pos < s.size
    · obtain ⟨g', rfl⟩ : ∃ g', gk = g' + 1 := ⟨gk - 1, by omega⟩
      have hnx : ∀ ty, (Instr.next (.pointer (some ⟨w.heap.size, 0, none⟩)) true ty).run Tryd.prog wr = _ := fun ty => Lib.run_next_any_at wr w.heap.size s pos ty hit hps
      have hwd := Lib.width_pos s pos
      have hrl := Lib.rune_le s pos
      have hdl : (s[pos]'hps).toNat < 128 → (Utf8.decode s pos).2 = 1 ∧ (Utf8.decode s pos).1 < 128 := fun hb => by rw [dec_low s pos hps hb]; exact ⟨rfl, hb⟩
      have hdh := fun hb => dec_high s pos hps hb
      obtain ⟨R, hR⟩ : ∃ R, (Utf8.decode s pos).1 = R := ⟨_, rfl⟩
      obtain ⟨K, hK⟩ : ∃ K, (Utf8.decode s pos).2 = K := ⟨_, rfl⟩
      rw [hR, hK] at hnx hdl
      rw [hK] at hwd
      rw [hR] at hrl hdh
      have hit2 := Lib.iterAt_heap wr w.heap.size s pos (pos + K) hit
      have hbw2 := Lib.below_iterAt hbw (k := w.heap.size) (Nat.le_refl _) s (pos + K)
      obtain ⟨W, hWd⟩ : ∃ W, wr.iterAt w.heap.size s (pos + K) = W := ⟨_, rfl⟩
      rw [hWd] at hnx hit2 hbw2
      clear hR hK hWd hit hbw
      have HB := Lib.hid (And.intro hit2 hbw2)
      clear hit2 hbw2
      have cS := q42_any R W hrl
      by_cases hb : (s[pos]'hps).toNat < 128
      · obtain ⟨rfl, hR8⟩ := hdl hb
        rw [decide_eq_false (show ¬ 128 ≤ R by omega)] at cS
        have HN : Hid (∀ b ∈ s.data.toList.take (pos + 1), b.toNat < 128) := take_snoc (p := fun b : UInt8 => b.toNat < 128) (by simpa using hps) HA.out hb
        clear hdl hdh
        go_wp2_with (go_at_call 76; refine cS.mono ?_; rintro e W' ⟨rfl, rfl⟩)
        go_roundg g'
        case measure => omega
        case rel => exact ⟨pos + 1, HB.out.1, HB.out.2, by omega, HN.out, by omega⟩
      · have hR8 := hdh hb
        rw [decide_eq_true hR8] at cS
        have HN := Lib.hid (asc_no hps hb)
        clear hdl hdh
        go_wp2_with (go_at_call 76; refine cS.mono ?_; rintro e W' ⟨rfl, rfl⟩)
        go_ret
        exact ⟨_, rfl, by rw [HN.out]; exact decide_eq_false (by omega), HB.out.2⟩
    · have hnx : ∀ ty, (Instr.next (.pointer (some ⟨w.heap.size, 0, none⟩)) true ty).run Tryd.prog wr = _ := fun ty => Lib.run_next_end_at wr w.heap.size s pos ty hit hps
      have HN : Hid (ascB s = true) := asc_yes (by obtain rfl : pos = s.size := by omega
                                                   exact HA.out)
      go_wp2
      go_ret
      exact ⟨_, rfl, by rw [HN.out]; rfl, hbw⟩
theorem qidx2_any (s : ByteArray) (w : World) (hs : s.size ≤ 1000000) :
    Calls Tryd.prog 75 #[.string s, .func (.func 76) #[] #[]] w fun e w' => ∃ r : Int, e = .returned (.int .i64 r) ∧ decide (r < 0) = ascB s ∧ Below w.heap.size w w' := by
  have HC := qidx_any s w hs
  go_enter Tryd.func75, Tryd.ntmps75
  go_wp2_with (go_at_call 82; refine HC.mono ?_; rintro e w' ⟨r, rfl, hr, hb⟩; have HR := Lib.hid hr; clear hr)
  go_ret
  exact ⟨_, rfl, HR.out, hb⟩
theorem qasc_any (s : ByteArray) (w : World) (hs : s.size ≤ 1000000) :
    Calls Tryd.prog 65 #[.string s] w fun e w' => e = .returned (.bool (ascB s)) ∧ Below w.heap.size w w' := by
  have HC := qidx2_any s w hs
  go_enter Tryd.func65, Tryd.ntmps65
  go_wp2_with (go_at_call 75; refine HC.mono ?_; rintro e w' ⟨r, rfl, hr, hb⟩; have HR := Lib.hid hr; clear hr)
  go_ret
  exact ⟨ret_bool HR.out, hb⟩

set_option maxHeartbeats 400000 in
theorem qlast_any (s : ByteArray) (w : World) (hs : s.size ≤ 1000000) :
    Calls Tryd.prog 83 #[.string s, .int .u8 45] w fun e w' => e = .returned (.int .i64 (hyph s.data.toList)) ∧ w = w' := by
  go_enter Tryd.func83, Tryd.ntmps83
  go_wp2
  go_loopw [5] (fun a wr => ∃ k : Nat, k ≤ s.size ∧ a = .int .i64 ((k : Int) - 1) ∧ wr = w ∧ (45 : UInt8) ∉ s.data.toList.drop k) (fun a _ => (intOf a + 1).toNat)
  case atStart => exact ⟨s.size, Nat.le_refl _, rfl, rfl, by rw [List.drop_eq_nil_of_le (by simp)]; simp⟩
  case round =>
    obtain ⟨k, hk, rfl, rfl, hm⟩ := hrel
    have HM := Lib.hid hm
    clear hm
    cases k with
    | zero =>
      have HE := Lib.hid (hyph_none (s := s.data.toList) (by simpa using HM.out))
      go_wp2
      go_ret
      exact ⟨ret_int (by rw [HE.out]), rfl⟩
    | succ k =>
      have hlt : k < s.size := by omega
      have hkk : (((k + 1 : Nat) : Int) - 1) = (k : Int) := by omega
      rw [hkk]
      clear hkk
      have hu := (s[k]'hlt).toNat_lt
      by_cases h : s[k]'hlt = 45
      · have he : (((s[k]'hlt).toNat : Int) == 45) = true := by rw [h]; rfl
        have HE : Hid (hyph s.data.toList = (k : Int)) := by
          have hsp : s.data.toList = s.data.toList.take k ++ 45 :: s.data.toList.drop (k + 1) := by
            rw [← h, ← drop_cons s k hlt, List.take_append_drop]
          show hyph s.data.toList = (k : Int)
          rw [hsp, hyph_at HM.out]
          simp
          omega
        clear h
        go_wp2
        go_ret
        exact ⟨ret_int (by rw [HE.out]), rfl⟩
      · have he : (((s[k]'hlt).toNat : Int) == 45) = false := by
          rw [Bool.eq_false_iff]
          exact fun e => h ((byte_eq (n := 45) (by omega)).1 e)
        have HE : Hid ((45 : UInt8) ∉ s.data.toList.drop k) := by
          show (45 : UInt8) ∉ s.data.toList.drop k
          rw [drop_cons s k hlt]
          simp only [List.mem_cons, not_or]
          exact ⟨fun e => h e.symm, HM.out⟩
        clear h
        go_wp2
        go_roundw
        case rel => exact ⟨k, by omega, by go_num, by first | rfl | trivial, HE.out⟩
        case measure => simp [intOf]
theorem qlast2_any (s : ByteArray) (w : World) (hs : s.size ≤ 1000000) :
    Calls Tryd.prog 77 #[.string s, .int .u8 45] w fun e w' => e = .returned (.int .i64 (hyph s.data.toList)) ∧ w = w' := by
  have HC := qlast_any s w hs
  go_enter Tryd.func77, Tryd.ntmps77
  go_wp2_with (go_at_call 83; refine HC.mono ?_; rintro e w' ⟨rfl, rfl⟩)
  go_ret
  exact ⟨rfl, rfl⟩

/-- What is thrown off. -/
theorem qoff_any (w : World) : Calls Tryd.prog 64 #[] w fun e w' => e = .returned (.tuple #[.slice none 0 0, .iface 101 (.pointer (some ⟨w.heap.size, 0, none⟩))]) ∧ Chain w' [⟨#[112, 117, 110, 121]⟩] (some 2) (.iface 101 (.pointer (some ⟨w.heap.size, 0, none⟩))) ∧ Below w.heap.size w w' := by
  go_enter Tryd.func64, Tryd.ntmps64
  go_wp2_with (go_at_call 34; refine (wrap_held _ _ _ _).mono ?_; rintro e w' ⟨rfl, rfl⟩)
  go_ret2
  exact ⟨rfl, Chain.lay (w := w) (cs := []) (o := some 2) ⟨#[112, 117, 110, 121]⟩ rfl, (Below.refl _ _).alloc (Nat.le_refl _) _⟩

set_option maxHeartbeats 1000000 in
set_option maxRecDepth 100000 in
theorem qsplit_none (s : ByteArray) (w : World) (hs : s.size ≤ 1000000) (h : ¬ 0 < hyph s.data.toList) :
    Calls Tryd.prog 66 #[.string s] w fun e w' => e = .returned (.tuple #[.slice none 0 0, .string s]) ∧ w = w' := by
  obtain ⟨y, hy⟩ : ∃ y, hyph s.data.toList = y := ⟨_, rfl⟩
  rw [hy] at h
  have HY := Lib.hid hy
  clear hy
  go_enter Tryd.func66, Tryd.ntmps66
  go_wp2_with (go_at_call 77; refine (qlast2_any _ _ hs).mono ?_; rintro e w' ⟨rfl, rfl⟩; rw [HY.out])
  go_ret2
  exact ⟨rfl, rfl⟩
theorem runesFrom_low (t : ByteArray) (ht : ∀ b ∈ t.data.toList, b.toNat < 128) : ∀ (bound i : Nat) (acc : Array Value), i + bound = t.size → Conv.runesFrom t bound i acc = acc ++ ((t.data.toList.drop i).map fun b : UInt8 => Value.int .i32 (b.toNat : Int)).toArray := by
  intro bound
  induction bound with
  | zero =>
    intro i acc h
    rw [List.drop_eq_nil_of_le (by simp; omega)]
    simp [Conv.runesFrom]
  | succ bound ih =>
    intro i acc h
    have hi : i < t.size := by omega
    unfold Conv.runesFrom
    rw [if_pos hi, dec_low t i hi (ht _ (Array.getElem_mem_toList (xs := t.data) hi))]
    show Conv.runesFrom t bound (i + 1) _ = _
    rw [ih (i + 1) _ (by omega), drop_cons t i hi]
    simp
theorem conv_made (t : ByteArray) (ht : ∀ b ∈ t.data.toList, b.toNat < 128) (hs : t.size ≤ 100000) (w : World) : ∃ v W2, (convert 9 22 (.string t)).run Tryd.prog w.drew = .ok v W2 ∧ Made w W2 v (ints (t.data.toList.map UInt8.toNat)) := by
  have e := runesFrom_low t ht t.size 0 #[] (by omega)
  have el : (Conv.runesFrom t t.size 0 #[]).size = t.size := by rw [e]; simp
  have hr := run_runes_of_string (P := Tryd.prog) w.drew 9 22 21 t Tryd.underlying9 Tryd.underlying22 Tryd.underlying21 (by rw [el]; omega)
  have hg := grownCap_ge w.drew (Conv.runesFrom t t.size 0 #[]).size 0 21
  have hm := grownCap_le_maxLen w.drew (Conv.runesFrom t t.size 0 #[]).size 0 21 (by rw [el]; unfold maxLen; omega)
  rw [el] at hr hg hm
  have hil : (ints (t.data.toList.map UInt8.toNat)).length = t.size := by rw [ints_length, List.length_map]; simp
  refine ⟨_, _, hr, ⟨by simp, .inr ⟨w.heap.size, _, _, ?_, Nat.le_refl _, heap_alloc_new _ _, by rw [hil]; exact hg, hm, ?_, ?_⟩⟩, ?_⟩
  · rw [hil]
    rfl
  · simp [el]; omega
  · rw [e]
    simp [ints]
  · exact ((below_drewN (Below.refl _ _) 2).alloc (Nat.le_refl _) _)

set_option maxHeartbeats 1000000 in
set_option maxRecDepth 100000 in
theorem qsplit_some (s : ByteArray) (w : World) (hs : s.size ≤ 3000) (h : 0 < hyph s.data.toList) (ha : ascB s = true) :
    Calls Tryd.prog 66 #[.string s] w fun e w' => ∃ v, e = .returned (.tuple #[v, .string ⟨(s.data.toList.drop ((hyph s.data.toList).toNat + 1)).toArray⟩]) ∧ Made w w' v (ints ((s.data.toList.take (hyph s.data.toList).toNat).map UInt8.toNat)) := by
  obtain ⟨y, hy⟩ : ∃ y : Nat, hyph s.data.toList = (y : Int) := ⟨(hyph s.data.toList).toNat, by omega⟩
  have hyl : y < s.size := by
    rcases hyph_lt s.data.toList with h1 | h1
    · have := h1.2; simp at this; omega
    · omega
  rw [hy] at h ⊢
  have HY := Lib.hid hy
  clear hy
  go_enter Tryd.func66, Tryd.ntmps66
  go_wp2_with (go_at_call 77; refine (qlast2_any _ _ (by omega)).mono ?_; rintro e w' ⟨rfl, rfl⟩; rw [HY.out])
  have hyi : (y : Int) ≤ (s.size : Int) := by omega
  have hyj : (y : Int) + 1 ≤ (s.size : Int) := by omega
  have htl : (s.extract 0 y).data.toList = s.data.toList.take y := by
    simp only [ByteArray.data_extract, Array.toList_extract, List.extract_eq_take_drop]
    simp
  obtain ⟨v, W2, hconv, hmade⟩ := conv_made (s.extract 0 y) (fun b hb => by
    rw [htl] at hb
    unfold ascB at ha
    rw [Bool.not_eq_true', List.any_eq_false] at ha
    have := ha b (List.mem_of_mem_take hb)
    simpa using this) (by simp; omega) w
  rw [htl] at hmade
  have HM := Lib.hid hmade
  clear hmade htl ha
  go_region
  all_goals
    go_wp2
    go_ret2
    refine ⟨_, ?_, HM.out⟩
    rw [show ((y : Nat) : Int).toNat = y by omega, ← extract_list]
    rfl
end Go.Proofs.YtfaieldafoeaiaaDoor

/-
  slices.Insert of one rune into a row of runes of the call's own.
-/
namespace Go.Proofs.YtfaieldafoeaiaaDoor
open Go.RowKit

/-- A list with one at a place. -/
def insI (l : List Int) (i : Nat) (c : Int) : List Int := l.take i ++ c :: l.drop i
theorem insI_length (l : List Int) (i : Nat) (c : Int) : (insI l i c).length = l.length + 1 := by simp [insI]; omega
theorem insI_ints (l : List Nat) (i c : Nat) : insI (ints l) i (c : Int) = ints (ins l i c) := by
  unfold insI ins ints
  rw [List.map_append, List.map_cons, List.map_take, List.map_drop]

theorem heap_set_same {w : World} {b i : Nat} {cs : Array Value} {T : TypeId} {fr : Nat × Nat} (hb : w.heap[b]? = some (.cells cs T fr)) (v : Value) :
    (w.setCell ⟨b, i, none⟩ v).heap[b]? = some (.cells (cs.setIfInBounds i v) T fr) := by
  simp [World.setCell, Array.getElem?_modify, hb]
theorem set_cells_block (b : Nat) (T : TypeId) : ∀ (vs : List Value) (o : Nat) (w : World) (cur : Array Value), w.heap[b]? = some (.cells cur T (0, 0)) → o + vs.length ≤ cur.size →
    ∃ cur', (w.setCells b o vs).heap[b]? = some (.cells cur' T (0, 0)) ∧ cur'.toList = cur.toList.take o ++ vs ++ cur.toList.drop (o + vs.length) := by
  intro vs
  induction vs with
  | nil => intro o w cur h _; exact ⟨cur, h, by simp⟩
  | cons v r ih =>
    intro o w cur h hl
    rw [List.length_cons] at hl
    obtain ⟨cur', h1, h2⟩ := ih (o + 1) (w.setCell ⟨b, o, none⟩ v) (cur.setIfInBounds o v) (heap_set_same (i := o) h v) (by simp; omega)
    refine ⟨cur', h1, ?_⟩
    rw [h2, Array.toList_setIfInBounds]
    have hol : o < cur.toList.length := by simp; omega
    rw [List.set_eq_take_append_cons_drop, if_pos hol]
    have e1 : (cur.toList.take o ++ v :: cur.toList.drop (o + 1)).take (o + 1) = cur.toList.take o ++ [v] := by
      rw [List.take_append, List.length_take, show min o cur.toList.length = o by omega, List.take_of_length_le (by simp; omega), show o + 1 - o = 1 by omega]; rfl
    have e2 : (cur.toList.take o ++ v :: cur.toList.drop (o + 1)).drop (o + 1 + r.length) = cur.toList.drop (o + 1 + r.length) := by
      rw [List.drop_append, List.length_take, show min o cur.toList.length = o by omega, List.drop_eq_nil_of_le (by simp; omega), show o + 1 + r.length - o = r.length + 1 by omega, List.drop_succ_cons, List.drop_drop, List.nil_append]
    rw [e1, e2, List.length_cons, show o + (r.length + 1) = o + 1 + r.length by omega]
    simp
theorem below_setCells {B : Nat} {a : World} (b : Nat) (hb : B ≤ b) : ∀ (vs : List Value) (o : Nat) (w : World), Below B a w → Below B a (w.setCells b o vs) := by
  intro vs
  induction vs with
  | nil => intro o w h; exact h
  | cons v r ih => intro o w h; exact ih (o + 1) _ (h.setCell (p := ⟨b, o, none⟩) hb v)

def InsPost (B : Nat) (l : List Int) (i : Nat) (c : Int) (w : World) (e : Ending) (w' : World) : Prop := ∃ v', e = .returned v' ∧ RowN B w' v' (insI l i c) ∧ Below B w w'

set_option maxHeartbeats 1000000 in
set_option maxRecDepth 100000 in
/-- At the end. -/
theorem put_end (B : Nat) (v : Value) (l : List Int) (c : Int) (vb : Nat) (w : World) (h : RowN B w v l) (hB : B ≤ w.heap.size) (hl : l.length ≤ 3000) (hv : Runes w (some ⟨vb, 0, none⟩) [c]) :
    Calls Tryd.prog 69 #[v, .int .i64 l.length, .slice (some ⟨vb, 0, none⟩) 1 1] w (InsPost B l l.length c w) := by
  obtain ⟨A, cap, rfl, hAc⟩ : ∃ A cap, v = .slice A l.length cap ∧ ((A = none ∧ l.length = 0 ∧ cap = 0) ∨ ((∃ g, A = some ⟨g, 0, none⟩) ∧ l.length ≤ cap ∧ cap ≤ maxLen)) := by
    rcases h.2 with ⟨rfl, h0⟩ | ⟨g, cap, cur, rfl, _, _, h1, h2, _⟩
    · exact ⟨none, 0, by rw [h0], .inl ⟨rfl, h0, rfl⟩⟩
    · exact ⟨_, cap, rfl, .inr ⟨⟨g, rfl⟩, h1, h2⟩⟩
  have HR := Lib.hid h
  have HV := Lib.hid hv
  clear h hv
  have hself : ((l.length : Int) == (l.length : Int)) = true := by simp
  rcases hAc with ⟨rfl, h0, rfl⟩ | ⟨⟨g, rfl⟩, hc1, hc2⟩
  · have hl0 : l = [] := List.eq_nil_of_length_eq_zero h0
    subst hl0
    go_enter Tryd.func69, Tryd.ntmps69
    go_wp2_with (at_builtin
                 refine append_from rfl (.tmp 23) (.tmp 24) rfl B _ [] _ 1 1 [c] rfl rfl HR.out HV.out rfl (by simp) (by simp) hB ?_
                 intro v' w2 h2 hb2)
    go_ret
    exact ⟨_, rfl, h2, hb2⟩
  · unfold maxLen at hc2
    go_enter Tryd.func69, Tryd.ntmps69
    go_wp2_with (at_builtin
                 refine append_from rfl (.tmp 23) (.tmp 24) rfl B _ l _ 1 1 [c] rfl rfl HR.out HV.out rfl (by simp) (by simp; omega) hB ?_
                 intro v' w2 h2 hb2)
    all_goals
      go_ret
      refine ⟨_, rfl, ?_, hb2⟩
      unfold insI
      rw [List.take_length, List.drop_length]
      exact h2

set_option maxHeartbeats 4000000 in
set_option maxRecDepth 100000 in
/-- In place. -/
theorem put_shift (B g n cap i : Nat) (l : List Int) (c : Int) (vb : Nat) (cur : Array Value) (w : World) (hn : n = l.length) (hg : w.heap[g]? = some (.cells cur 21 (0, 0))) (hcur : cur.size = cap) (htk : cur.toList.take n = l.map (Value.int .i32)) (hBg : B ≤ g) (hi : i < n) (hroom : n + 1 ≤ cap) (hc63 : cap ≤ maxLen) (hl : n ≤ 3000)
    (hv : w.heap[vb]? = some (.cells #[.int .i32 c] 21 (0, 0))) (hvb : vb ≠ g) :
    Calls Tryd.prog 69 #[.slice (some ⟨g, 0, none⟩) n cap, .int .i64 i, .slice (some ⟨vb, 0, none⟩) 1 1] w (InsPost B l i c w) := by
  have hsz : (Tryd.prog.info? 21).map (·.size) = some 1 := by
    obtain ⟨i0, hi0, h0, h1, h2⟩ := info_parts Tryd.infoR
    rw [hi0]; simp [h1]
  have hcell : ∀ j, w.cell? ⟨g, j, none⟩ = cur[j]? := fun j => by rw [Lib.cell_of_heap hg]
  have hcs : ∀ (j : Nat) (u : Value), (l.map (Value.int .i32))[j]? = some u → w.cell? ⟨g, j, none⟩ = some u := fun j u hj => by
    rw [← htk, List.getElem?_take] at hj
    split at hj
    · rw [hcell, ← Array.getElem?_toList]; exact hj
    · cases hj
  have hsp : ∀ j, j < n + 1 → (w.cell? ⟨g, j, none⟩).isSome = true := fun j hj => by rw [hcell, Array.getElem?_eq_getElem (by omega)]; rfl
  have hfz : ∀ j, w.frozen? ⟨g, j, none⟩ = false := fun j => Lib.frozen_of_heap hg j
  have hvs : ∀ (j : Nat) (u : Value), [Value.int .i32 c][j]? = some u → w.cell? ⟨vb, j, none⟩ = some u := fun j u hj => by
    rw [Lib.cell_of_heap hv]
    simpa using hj
  have hov : ∀ lb cb, (callFunc 78 #[.slice (some ⟨vb, 0, none⟩) 1 1, .slice (some ⟨g, i + 1, none⟩) lb cb]).run Tryd.prog w = .ok (.value (.bool false)) w := fun lb cb => by
    rw [run_callFunc_extern Tryd.func78 (by kernel_rfl) (by kernel_rfl) (by kernel_rfl) (e := Extern.SlicesOverlaps.overlaps #[22, 22] #[4]) (by kernel_rfl),
      Lib.run_overlaps_apart w 22 4 21 Tryd.underlying22 1 Tryd.sizeOf21 ⟨vb, 0, none⟩ ⟨g, i + 1, none⟩ 1 1 lb cb hvb 21 21 1 cap (by simp [World.shape?, hv]) (by simp [World.shape?, hg, hcur]) (by omega) (Lib.frozen_of_heap hv 0) (Lib.frozen_of_heap hv 1)]
    rfl
  have hdl : ((l.map (Value.int .i32)).drop i).length = n - i := by rw [List.length_drop, List.length_map, hn]
  have h1c : ∀ u ∈ l.map (Value.int .i32), u.oneCell' = true := fun u hu => by obtain ⟨y, _, rfl⟩ := List.mem_map.1 hu; rfl
  have hcp1 : ∀ ty dc sc, (Builtin.copy_ #[22, 22] ty #[.slice (some ⟨g, i + 1, none⟩) (n - i) dc, .slice (some ⟨g, i, none⟩) (n + 1 - i) sc]).run Tryd.prog w.drew = .ok (goInt ((l.map (Value.int .i32)).drop i).length) (w.drew.setCells g (i + 1) ((l.map (Value.int .i32)).drop i)) := fun ty dc sc =>
    run_copy_cells w.drew _ _ ty 21 g (i + 1) (n - i) dc ⟨g, i, none⟩ (n + 1 - i) sc ((l.map (Value.int .i32)).drop i) Tryd.underlying22 hsz (by rw [hdl]; simp only [Nat.min_def]; split <;> omega)
      (fun j u hj => by rw [Addr.add_lit]; exact hcs (i + j) u (by rwa [List.getElem?_drop] at hj))
      (fun j hj => hsp _ (by omega)) (fun j hj => hfz _) (fun u hu => h1c u (List.mem_of_mem_drop hu))
  obtain ⟨cur1, hg1, hcur1⟩ := set_cells_block g 21 ((l.map (Value.int .i32)).drop i) (i + 1) w.drew cur hg (by rw [hdl]; omega)
  obtain ⟨W1, hW1⟩ : ∃ W1, W1 = w.drew.setCells g (i + 1) ((l.map (Value.int .i32)).drop i) := ⟨_, rfl⟩
  rw [← hW1] at hg1 hcp1
  have hsz1 : cur1.size = cap := by
    have := congrArg List.length hcur1
    simp at this
    omega
  have hcp2 : ∀ (W : World), (∀ x, W.cell? x = W1.cell? x) → (∀ x, W.frozen? x = W1.frozen? x) → ∀ ty dc, (Builtin.copy_ #[22, 22] ty #[.slice (some ⟨g, i, none⟩) (n + 1 - i) dc, .slice (some ⟨vb, 0, none⟩) 1 1]).run Tryd.prog W = .ok (goInt [Value.int .i32 c].length) (W.setCells g i [.int .i32 c]) := fun W hWc hWf ty dc =>
    run_copy_cells W _ _ ty 21 g i (n + 1 - i) dc ⟨vb, 0, none⟩ 1 1 [.int .i32 c] Tryd.underlying22 hsz (by simp only [Nat.min_def, List.length_singleton]; split <;> omega)
      (fun j u hj => by
        rw [Addr.add_lit, hWc, hW1, World.cell?_setCells_out g _ _ _ _ (fun h _ => absurd h hvb), Nat.zero_add]
        exact hvs j u hj)
      (fun j hj => by rw [hWc, Lib.cell_of_heap hg1, Array.getElem?_eq_getElem (by simp at hj; omega)]; rfl) (fun j hj => by rw [hWf]; exact Lib.frozen_of_heap hg1 _) (by simp [Value.oneCell'])
  obtain ⟨cur2, hg2, hcur2⟩ := set_cells_block g 21 [.int .i32 c] i W1 cur1 hg1 (by simp; omega)
  have HF : Hid (RowN B (W1.setCells g i [.int .i32 c]) (.slice (some ⟨g, 0, none⟩) (n + 1) cap) (insI l i c) ∧ Below B w (W1.setCells g i [.int .i32 c])) := by
    have hsz2 : cur2.size = cap := by
      have := congrArg List.length hcur2
      simp at this
      omega
    have hti : cur.toList.take i = (l.map (Value.int .i32)).take i := by rw [← htk, List.take_take, show min i n = i by omega]
    have e1 : cur1.toList.take i = (l.map (Value.int .i32)).take i := by
      rw [hcur1, List.append_assoc, List.take_append_of_le_length (by simp; omega), List.take_take, show min i (i + 1) = i by omega, hti]
    have e2 : cur1.toList.drop (i + 1) = (l.map (Value.int .i32)).drop i ++ cur.toList.drop (n + 1) := by
      have hq : (cur.toList.take (i + 1)).length = i + 1 := by simp; omega
      rw [hcur1, List.append_assoc, List.drop_append, hq, List.drop_eq_nil_of_le (by omega), Nat.sub_self, List.drop_zero, List.nil_append, hdl, show i + 1 + (n - i) = n + 1 by omega]
    refine ⟨⟨by simp, .inr ⟨g, cap, cur2, by rw [insI_length, ← hn], hBg, hg2, by rw [insI_length, ← hn]; exact hroom, hc63, by rw [hsz2, Nat.mul_one], ?_⟩⟩, below_setCells g hBg _ _ _ (by rw [hW1]; exact below_setCells g hBg _ _ _ (below_drewN (Below.refl _ _) 1))⟩
    rw [hcur2, e1, List.length_singleton, e2, insI_length, ← hn, Nat.mul_one]
    have hq2 : ((l.map (Value.int .i32)).take i ++ [Value.int .i32 c] ++ (l.map (Value.int .i32)).drop i).length = n + 1 := by simp; omega
    rw [← List.append_assoc, List.take_left' hq2]
    unfold insI
    rw [List.map_append, List.map_cons, List.map_take, List.map_drop]
    simp
  unfold maxLen at hc63
  have hz2 : ¬ ((i : Int) = (n : Int)) := by omega
  have hin : i ≤ n := by omega
  have hb2 : ¬ (cap = i + 1) := by omega
  have hb3 : (i : Int) ≤ (n : Int) + 1 := by omega
  have hb4 : ¬ (cap = i) := by omega
  have hw1 : IntKind.i64.wrap ((i : Int) + 1) = (i : Int) + 1 := by rw [IntKind.wrap_i64]; omega
  have hb1 : (0 : Int) ≤ (i : Int) + 1 := by omega
  have htn : ((i : Int) + 1).toNat = i + 1 := by omega
  clear hn hg hcur htk hcell hcs hsp hfz hvs h1c hdl hg1 hcur1 hsz1 hg2 hcur2 hv hsz hW1
  go_enter Tryd.func69, Tryd.ntmps69
  go_wp2_with (simp only [hov])
  go_region_law (refine step_copy_runI rfl _ _ 22 22 rfl _ _ (by simp [Act.eval, Act.put]) (by simp [Act.eval, Act.put]) (hcp1 _ _ _) ?_)
  go_wp2_with (at_builtin; refine wpList_copy_runI _ rfl _ _ 22 22 rfl _ _ rfl rfl (hcp2 _ (fun _ => rfl) (fun _ => rfl) _ _) ?_)
  go_ret
  exact ⟨_, rfl, HF.out⟩

set_option maxHeartbeats 4000000 in
set_option maxRecDepth 100000 in
/-- No room: a new row. -/
theorem put_grow (B g n i : Nat) (l : List Int) (c : Int) (vb : Nat) (cur : Array Value) (w : World) (hn : n = l.length) (hg : w.heap[g]? = some (.cells cur 21 (0, 0))) (htk : cur.toList.take n = l.map (Value.int .i32)) (hcur : cur.size = n) (hB : B ≤ w.heap.size) (hi : i < n) (hl : n ≤ 3000)
    (hv : w.heap[vb]? = some (.cells #[.int .i32 c] 21 (0, 0))) :
    Calls Tryd.prog 69 #[.slice (some ⟨g, 0, none⟩) n n, .int .i64 i, .slice (some ⟨vb, 0, none⟩) 1 1] w (InsPost B l i c w) := by
  obtain ⟨i0, hi0, hz0, hzs, hzb⟩ := info_parts Tryd.infoR
  have hsz : (Tryd.prog.info? 21).map (·.size) = some 1 := by rw [hi0]; simp [hzs]
  have hcell : ∀ j, w.cell? ⟨g, j, none⟩ = cur[j]? := fun j => by rw [Lib.cell_of_heap hg]
  have hcs : ∀ (j : Nat) (u : Value), (l.map (Value.int .i32))[j]? = some u → w.cell? ⟨g, j, none⟩ = some u := fun j u hj => by
    rw [← htk, List.getElem?_take] at hj
    split at hj
    · rw [hcell, ← Array.getElem?_toList]; exact hj
    · cases hj
  have hvs : ∀ (j : Nat) (u : Value), [Value.int .i32 c][j]? = some u → w.cell? ⟨vb, j, none⟩ = some u := fun j u hj => by
    rw [Lib.cell_of_heap hv]
    simpa using hj
  have h1c : ∀ u ∈ l.map (Value.int .i32), u.oneCell' = true := fun u hu => by obtain ⟨y, _, rfl⟩ := List.mem_map.1 hu; rfl
  have hbw : g < w.heap.size := (Array.getElem?_eq_some_iff.1 hg).1
  have hvw : vb < w.heap.size := (Array.getElem?_eq_some_iff.1 hv).1
  have hll : (l.map (Value.int .i32)).length = n := by rw [List.length_map, hn]
  have hkk : (n : Int) + 1 - (i : Int) = ((n + 1 - i : Nat) : Int) := by omega
  have hik : i + (n + 1 - i) = n + 1 := by omega
  have hold : (Builtin.firstCells i0.size i (.slice (some ⟨g, 0, none⟩) i n)).run Tryd.prog w.drew = .ok ((l.map (Value.int .i32)).take i).toArray w.drew := by
    rw [hzs]
    exact run_firstCells_some w.drew 1 i ⟨g, 0, none⟩ i n ((l.map (Value.int .i32)).take i) (by rw [List.length_take]; omega) (fun j u hj => by
      rw [Addr.add_lit]
      rw [List.getElem?_take] at hj
      split at hj
      · rw [Nat.zero_add]; exact hcs j u hj
      · cases hj)
  have hrz : ∀ ty, (Builtin.append_ #[22, 3] ty #[.slice (some ⟨g, 0, none⟩) i n, .int .i64 ((n : Int) + 1 - (i : Int))]).run Tryd.prog w =
      .ok (.slice (some ⟨w.heap.size, 0, none⟩) (n + 1) (grownCap w (n + 1) n 21)) (w.drew.alloc (.cells (((l.map (Value.int .i32)).take i).toArray ++ Builtin.zeroCells (Value.int .i32 0).cells (n + 1 - i) ++ Builtin.zeroCells (Value.int .i32 0).cells (grownCap w (n + 1) n 21 - (n + 1))) 21)) := fun ty => by
    have h := Lib.run_append_grow_zeros w 22 3 ty 21 i0 _ .i64 .i64 Tryd.underlying22 Tryd.underlying3 hi0 hz0 (some ⟨g, 0, none⟩) i n ((l.map (Value.int .i32)).take i) hold (n + 1 - i) (by omega) (by omega) (by omega) (by omega) (by rw [hzb]; omega) (by rw [hzb, hik]; exact growslice_fits (by omega) (by omega))
    rw [hik] at h
    rw [hkk]
    exact h
  obtain ⟨G, hG⟩ : ∃ G, G = grownCap w (n + 1) n 21 := ⟨_, rfl⟩
  obtain ⟨ROW, hROW⟩ : ∃ ROW : Array Value, ROW = ((l.map (Value.int .i32)).take i).toArray ++ Builtin.zeroCells (Value.int .i32 0).cells (n + 1 - i) ++ Builtin.zeroCells (Value.int .i32 0).cells (G - (n + 1)) := ⟨_, rfl⟩
  rw [← hG] at hrz
  rw [← hROW] at hrz
  have hGn : n + 1 ≤ G := by rw [hG]; exact grownCap_ge w _ _ _
  have hG63 : G ≤ maxLen := by rw [hG]; exact grownCap_le_maxLen w (n + 1) n 21 (by unfold maxLen; omega)
  have hRs : ROW.size = G := by
    rw [hROW]
    simp [Builtin.zeroCells, Value.cells]
    omega
  have hRt : ROW.toList.take i = (l.map (Value.int .i32)).take i := by
    rw [hROW]
    simp only [Array.toList_append, List.append_assoc]
    rw [List.take_append_of_le_length (by simp; omega), List.take_of_length_le (by simp; omega)]
  clear hROW hG
  obtain ⟨W1, hW1⟩ : ∃ W1, W1 = w.drew.alloc (.cells ROW 21) := ⟨_, rfl⟩
  rw [← hW1] at hrz
  have hg1 : W1.heap[w.heap.size]? = some (.cells ROW 21 (0, 0)) := by rw [hW1]; exact heap_alloc_new _ _
  have hOld : ∀ k, k < w.heap.size → W1.heap[k]? = w.heap[k]? := fun k hk => by rw [hW1]; exact Below.heap_alloc _ _ _ hk
  have hcpA : ∀ (W : World), (∀ x, W.cell? x = W1.cell? x) → (∀ x, W.frozen? x = W1.frozen? x) → ∀ ty dc, (Builtin.copy_ #[22, 22] ty #[.slice (some ⟨w.heap.size, i, none⟩) (n + 1 - i) dc, .slice (some ⟨vb, 0, none⟩) 1 1]).run Tryd.prog W = .ok (goInt [Value.int .i32 c].length) (W.setCells w.heap.size i [.int .i32 c]) := fun W hWc hWf ty dc =>
    run_copy_cells W _ _ ty 21 w.heap.size i (n + 1 - i) dc ⟨vb, 0, none⟩ 1 1 [.int .i32 c] Tryd.underlying22 hsz (by simp only [Nat.min_def, List.length_singleton]; split <;> omega)
      (fun j u hj => by rw [Addr.add_lit, hWc, World.cell?_of_block (w := w) (hOld vb hvw), Nat.zero_add]; exact hvs j u hj)
      (fun j hj => by rw [hWc, Lib.cell_of_heap hg1, Array.getElem?_eq_getElem (by simp at hj; omega)]; rfl) (fun j hj => by rw [hWf]; exact Lib.frozen_of_heap hg1 _) (by simp [Value.oneCell'])
  obtain ⟨cur1, hg2, hcur1⟩ := set_cells_block w.heap.size 21 [.int .i32 c] i W1 ROW hg1 (by simp; omega)
  have hdl : ((l.map (Value.int .i32)).drop i).length = n - i := by rw [List.length_drop, hll]
  have hs1 : cur1.size = G := by
    have := congrArg List.length hcur1
    simp at this
    omega
  have hcpB : ∀ (W : World), (∀ x, W.cell? x = (W1.setCells w.heap.size i [.int .i32 c]).cell? x) → (∀ x, W.frozen? x = (W1.setCells w.heap.size i [.int .i32 c]).frozen? x) → ∀ ty dc sc, (Builtin.copy_ #[22, 22] ty #[.slice (some ⟨w.heap.size, i + 1, none⟩) (n - i) dc, .slice (some ⟨g, i, none⟩) (n - i) sc]).run Tryd.prog W = .ok (goInt ((l.map (Value.int .i32)).drop i).length) (W.setCells w.heap.size (i + 1) ((l.map (Value.int .i32)).drop i)) := fun W hWc hWf ty dc sc =>
    run_copy_cells W _ _ ty 21 w.heap.size (i + 1) (n - i) dc ⟨g, i, none⟩ (n - i) sc ((l.map (Value.int .i32)).drop i) Tryd.underlying22 hsz (by rw [hdl]; simp)
      (fun j u hj => by
        rw [Addr.add_lit, hWc, World.cell?_setCells_out _ _ _ _ _ (fun h _ => by exfalso; change g = w.heap.size at h; omega), World.cell?_of_block (w := w) (hOld g hbw)]
        exact hcs (i + j) u (by rwa [List.getElem?_drop] at hj))
      (fun j hj => by rw [hWc, Lib.cell_of_heap hg2, Array.getElem?_eq_getElem (by omega)]; rfl)
      (fun j hj => by rw [hWf]; exact Lib.frozen_of_heap hg2 _) (fun u hu => h1c u (List.mem_of_mem_drop hu))
  have HF : Hid (∀ W : World, W.heap = (W1.setCells w.heap.size i [.int .i32 c]).heap → Below B w W → RowN B (W.setCells w.heap.size (i + 1) ((l.map (Value.int .i32)).drop i)) (.slice (some ⟨w.heap.size, 0, none⟩) (n + 1) G) (insI l i c) ∧ Below B w (W.setCells w.heap.size (i + 1) ((l.map (Value.int .i32)).drop i))) := by
    intro W hW hbl
    obtain ⟨cur2, hg3, hcur2⟩ := set_cells_block w.heap.size 21 ((l.map (Value.int .i32)).drop i) (i + 1) W cur1 (by rw [hW]; exact hg2) (by rw [hdl]; omega)
    have hs2 : cur2.size = G := by
      have := congrArg List.length hcur2
      simp at this
      omega
    refine ⟨⟨by simp, .inr ⟨w.heap.size, G, cur2, by rw [insI_length, ← hn], hB, hg3, by rw [insI_length, ← hn]; exact hGn, hG63, by rw [hs2, Nat.mul_one], ?_⟩⟩, below_setCells _ hB _ _ _ hbl⟩
    have e1 : cur1.toList.take (i + 1) = (l.map (Value.int .i32)).take i ++ [Value.int .i32 c] := by
      have hq : (ROW.toList.take i ++ [Value.int .i32 c]).length = i + 1 := by simp; omega
      rw [hcur1, List.take_left' hq, hRt]
    rw [hcur2, e1, insI_length, ← hn, Nat.mul_one]
    have hq2 : ((l.map (Value.int .i32)).take i ++ [Value.int .i32 c] ++ (l.map (Value.int .i32)).drop i).length = n + 1 := by simp; omega
    rw [List.take_left' hq2]
    unfold insI
    rw [List.map_append, List.map_cons, List.map_take, List.map_drop]
    simp
  have hbel : Below B w W1 := by rw [hW1]; exact (below_drewN (Below.refl _ _) 1).alloc hB _
  unfold maxLen at hG63
  have hz2 : ¬ ((i : Int) = (n : Int)) := by omega
  have hz3 : (n : Int) < (n : Int) + 1 := by omega
  have hGi : ¬ (G = i) := by omega
  have hGim : ¬ (G = i + 1) := by omega
  have hci : ¬ (n = i) := by omega
  have hin : i ≤ n := by omega
  have hb3 : (i : Int) ≤ (n : Int) := by omega
  have hw1 : IntKind.i64.wrap ((i : Int) + 1) = (i : Int) + 1 := by rw [IntKind.wrap_i64]; omega
  have hb1 : (0 : Int) ≤ (i : Int) + 1 := by omega
  have htn : ((i : Int) + 1).toNat = i + 1 := by omega
  have HB := Lib.hid hbel
  clear hn hg hcur htk hcell hcs hvs h1c hdl hll hg1 hOld hcur1 hs1 hg2 hv hsz hkk hik hold hbel hi0 hz0 hzs hzb hRs hRt
  subst hW1
  have hA1 := hcpA ((w.alloc (.cells ROW 21)).drew) (fun _ => rfl) (fun _ => rfl)
  have hB1 := hcpB (((w.alloc (.cells ROW 21)).drew.setCells w.heap.size i [.int .i32 c]).drew) (fun _ => rfl) (fun _ => rfl)
  have HF1 := Lib.hid (HF.out (((w.alloc (.cells ROW 21)).drew.setCells w.heap.size i [.int .i32 c]).drew) rfl (below_drewN (below_setCells _ hB _ _ _ (below_drewN ((Below.refl _ _).alloc hB _) 1)) 1))
  clear hcpA hcpB HF
  go_enter Tryd.func69, Tryd.ntmps69
  go_wp2_with (first
    | (at_builtin; refine Lib.wpList_append_run _ rfl _ _ _ _ rfl _ _ rfl rfl _ _ (hrz _) ?_)
    | (at_builtin; refine wpList_copy_runI _ rfl _ _ 22 22 rfl _ _ rfl rfl (hA1 _ _) ?_))
  go_region_law (refine step_copy_runI rfl _ _ 22 22 rfl _ _ (by simp [Act.eval, Act.put]) (by simp [Act.eval, Act.put]) (hB1 _ _ _) ?_)
  go_wp2
  go_ret
  exact ⟨_, rfl, HF1.out⟩

/-- One put at a place. -/
theorem qput_any (B : Nat) (v : Value) (l : List Int) (i : Nat) (c : Int) (vb : Nat) (w : World) (h : RowN B w v l) (hB : B ≤ w.heap.size) (hi : i ≤ l.length) (hl : l.length ≤ 3000) (hv : w.heap[vb]? = some (.cells #[.int .i32 c] 21 (0, 0))) (hvb : v.ownBlock ≠ some vb) :
    Calls Tryd.prog 69 #[v, .int .i64 i, .slice (some ⟨vb, 0, none⟩) 1 1] w (InsPost B l i c w) := by
  by_cases e : i = l.length
  · subst e
    refine put_end B v l c vb w h hB hl ?_
    intro j x hj
    refine ⟨vb, 0, rfl, (Array.getElem?_eq_some_iff.1 hv).1, ?_⟩
    rw [Lib.cell_of_heap hv]
    cases j with
    | zero => simp at hj; subst hj; rfl
    | succ j => simp at hj
  · rcases h.2 with ⟨rfl, h0⟩ | ⟨g, cap, cur, rfl, hBg, hg, h1, h2, h3, h4⟩
    · omega
    · rw [Nat.mul_one] at h3 h4
      have hne : vb ≠ g := fun e => hvb (by rw [e]; rfl)
      by_cases hr : l.length + 1 ≤ cap
      · exact put_shift B g l.length cap i l c vb cur w rfl hg h3 h4 hBg (by omega) hr h2 hl hv hne
      · obtain rfl : cap = l.length := by omega
        exact put_grow B g l.length i l c vb cur w rfl hg h4 h3 hB (by omega) hl hv
end Go.Proofs.YtfaieldafoeaiaaDoor

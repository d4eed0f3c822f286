/-
  Encode: where a number is no scalar; the state of its loops.
-/
import Derived.Test.YtmnpefpglpabmaaDoorQEncM
import Derived.Test.YtmnpefpglpabmaaDoorQStab
import Derived.Test.YtmnpefpglpabmaaDoorQTell
import Derived.Laws.MakeOwn
namespace Go.Proofs.YtmnpefpglpabmaaDoor
open Go.RowKit

theorem anyBad_yes {l : List Int} (h : ¬ ∀ c ∈ l, scal c = true) : anyBad l = true := by
  unfold anyBad
  rw [List.any_eq_true]
  apply Classical.byContradiction
  intro hn
  apply h
  intro c hc
  cases hs : scal c with
  | true => rfl
  | false => exact absurd ⟨c, hc, by rw [hs]; rfl⟩ hn
theorem anyBad_no {l : List Int} (h : ∀ c ∈ l, scal c = true) : anyBad l = false := by
  unfold anyBad
  rw [List.any_eq_false]
  intro c hc
  rw [h c hc]; simp

set_option maxHeartbeats 1000000 in
set_option maxRecDepth 100000 in
theorem enc_bad (A : Option Addr) (l : List Int) (cap : Nat) (w : World) (h : Runes w A l) (hr : ∀ c ∈ l, -2147483648 ≤ c ∧ c < 2147483648) (hb : ¬ ∀ c ∈ l, scal c = true) (hl : l.length ≤ 100) :
    Calls Tryd.prog 6 #[.slice A l.length cap] w (EncBad w) := by
  have HB := Lib.hid (anyBad_yes hb)
  have HC := qcontains_any A l cap (w.alloc (.cells #[.slice A l.length cap] 22)) (h.below ((Below.refl _ _).alloc (Nat.le_refl _) _)) hr (by omega)
  rw [HB.out] at HC
  clear hb h hr HB
  go_enter Tryd.func6, Tryd.ntmps6
  go_wp2_with (first
    | (go_at_call 13; refine HC.mono ?_; rintro e w' ⟨rfl, rfl⟩)
    | (go_at_call 16; refine (wrap_held _ _ _ _).mono ?_; rintro e w' ⟨rfl, rfl⟩))
  go_ret2
  refine ⟨[⟨#[112, 117, 110, 121]⟩], _, _, rfl, ?_, ?_⟩
  · have hc := Chain.lay (w := w.alloc (.cells #[.slice A l.length cap] 22)) (cs := []) (o := some 2) ⟨#[112, 117, 110, 121]⟩ rfl
    rw [show (w.alloc (.cells #[.slice A l.length cap] 22)).heap.size = w.heap.size + 1 by simp] at hc
    exact hc
  · exact ((Below.refl _ _).alloc (Nat.le_refl _) _).alloc (by simp) _

theorem ints_scal {ln : List Nat} (h : ∀ c ∈ ln, sc c = true) : ∀ c ∈ ints ln, scal c = true := by
  intro c hc
  obtain ⟨x, hx, rfl⟩ := List.mem_map.1 hc
  rw [sc_scal']
  exact h x hx

theorem Tryd.infoI64 : (Tryd.prog.info? 2).map (fun i => (i.zero, i.size, i.bytes)) = some (some (.int .i64 0), 1, 8) := by kernel_rfl
theorem Tryd.infoInt : (Tryd.prog.info? 3).map (fun i => (i.zero, i.size, i.bytes)) = some (some (.int .i64 0), 1, 8) := by kernel_rfl
theorem fen_none (i : Nat) : fen (fun _ => false) i = 0 := by
  have : ∀ n, cnt (fun _ => false) n = 0 := by
    intro n
    induction n with
    | zero => rfl
    | succ n ih => show cnt _ n + 0 = 0; rw [ih]
  unfold fen; rw [this, this]
/-- The tally, made. -/
theorem tally_made (w : World) (n : Nat) (hn : n ≤ 120) : ∃ w2, (Instr.makeSlice 49 (.int .i64 ((n : Int) + 1)) (.int .i64 ((n : Int) + 1))).run Tryd.prog w = .ok (.slice (some ⟨w.heap.size, 0, none⟩) (n + 1) (n + 1)) w2 ∧
    Tally w.heap.size n (fun _ => false) w2 ∧ Kept [] w w2 ∧ w2.heap.size = w.heap.size + 1 := by
  obtain ⟨i0, hi, hz0, hz1, hz2⟩ := info_parts Tryd.infoI64
  have hr := run_make (P := Tryd.prog) w 49 2 i0 (.int .i64 0) Tryd.underlying49 hi hz0 .i64 .i64 ((n : Int) + 1) ((n : Int) + 1) (by omega) (Int.le_refl _) (by rw [hz2]; omega) (by omega)
  rw [show ((n : Int) + 1).toNat = n + 1 by omega] at hr
  refine ⟨_, hr, ⟨by simp, fun i hi => ?_⟩, (Kept.refl _ _).alloc _, by simp⟩
  rw [fen_none, World.cell?_alloc_at _ _ _ _ (by simp), World.frozen?_alloc_at _ _ _ _ (by simp), hz1]
  refine ⟨?_, by simp⟩
  simp only [madeCells, Nat.mul_one]
  rw [Array.getElem?_eq_getElem (by simp; omega)]
  simp [Value.cells, Nat.mod_one]

def vi (x : Nat) : Value := .int .i64 (x : Int)
/-- The row of the others' places, in block g. -/
def RowO (v : Value) (O : List Nat) (g : Option Nat) (w : World) : Prop := w.ownsRow 0 3 1 v O.length (O.map vi) ∧ v.ownBlock = g
theorem RowO.kept {v : Value} {O : List Nat} {g : Option Nat} {w w' : World} {S : List Nat} (h : RowO v O g w) (hk : Kept S w w') (hs : ∀ k, g = some k → k ∉ S) : RowO v O g w' := ⟨owns_kept h.1 hk (fun k e => hs k (h.2 ▸ e)), h.2⟩
theorem oth_append {ops : Array Oper} {rest : List Oper} {o : Oper} {a : Act} {Q : Exit → Act → World → Prop} {w : World} (hgd : o.guard = none) (s x : Operand)
    (ho : o.op = .call { callee := .builtin .append, args := #[s, x], argTypes := #[50, 50] })
    (v : Value) (O : List Nat) (g : Option Nat) (p : Nat) (hs : a.eval s = v) (hx : a.eval x = .slice (some ⟨w.heap.size, 0, none⟩) 1 1) (h : RowO v O g w) (hl : O.length ≤ 4000)
    (k : ∀ v' w' g', RowO v' (O ++ [p]) g' w' → Kept g.toList w w' → (g' = g ∨ ∃ k, g' = some k ∧ w.heap.size ≤ k ∧ k < w'.heap.size) → wpList Tryd.prog ops Q rest (a.put o.dst v') w') : wpList Tryd.prog ops Q (o :: rest) a (w.alloc (.cells #[.int .i64 (p : Int)] 3)) := by
  obtain ⟨i0, hi, hz0, hz1, hz2⟩ := info_parts Tryd.infoInt
  obtain ⟨h1, rfl⟩ := h
  refine wpList_append_own_at _ hgd s x _ ho 0 3 i0 _ 1 8 Tryd.underlying50 hi hz0 hz1 hz2 rfl (by decide) v _ _ hs (World.ownsRow.alloc h1 _) ⟨w.heap.size, 0, none⟩ 1 1 [.int .i64 (p : Int)] hx rfl (cell_one_new _ _ _) (by simp [Value.oneCell']) (by simp only [maxLen]; omega) (by omega) (Nat.zero_le _) (fun v' w' hown hg _ hat => k v' w' v'.ownBlock ⟨?_, rfl⟩ ?_ ?_)
  · rw [List.length_append, List.map_append]; exact hown
  · exact ((Kept.refl _ _).alloc _).grown hg (fun k hk => .inl (by simp [hk]))
  · rcases hat with e | e
    · exact .inl e
    · have := (World.ownsRow.lt hown _ e).2
      exact .inr ⟨_, e, by simp, this⟩

/-- What Encode has made, and where. -/
structure Core (w0 : World) (A : Option Addr) (ln : List Nat) (cap bl bb bt : Nat) (o g : Option Nat) (txt : List UInt8) (M : Nat → Bool) (w : World) : Prop where
  runes : Runes w0 A (ints ln)
  below : Below w0.heap.size w0 w
  box : w.cell? ⟨bl, 0, none⟩ = some (.slice A ln.length cap)
  bld : BldO bb o txt w
  tal : Tally bt ln.length M w
  base : w0.heap.size ≤ bl ∧ w0.heap.size ≤ bb ∧ w0.heap.size ≤ bt ∧ bl < w.heap.size ∧ bl ≠ bb ∧ bl ≠ bt ∧ bb ≠ bt
  osep : ∀ k, o = some k → w0.heap.size ≤ k ∧ k ≠ bl ∧ k ≠ bt
  gsep : ∀ k, g = some k → w0.heap.size ≤ k ∧ k < w.heap.size ∧ k ≠ bl ∧ k ≠ bb ∧ k ≠ bt ∧ o ≠ some k
theorem Core.put {w0 : World} {A : Option Addr} {ln : List Nat} {cap bl bb bt : Nat} {o o' g : Option Nat} {txt txt' : List UInt8} {M : Nat → Bool} {w w' : World} (h : Core w0 A ln cap bl bb bt o g txt M w) (hb : BldO bb o' txt' w') (ho : OAt w o o') (hk : Kept (bb :: o.toList) w w') : Core w0 A ln cap bl bb bt o' g txt' M w' := by
  obtain ⟨b1, b2, b3, b4, b5, b6, b7⟩ := h.base
  have hsz := h.below.size
  have ht := h.tal.1
  have hol := h.bld.olt
  refine ⟨h.runes, h.below.trans (hk.below hsz ?_), ?_, hb, h.tal.kept hk ?_, ⟨b1, b2, b3, Nat.lt_of_lt_of_le b4 hk.size, b5, b6, b7⟩, ?_, ?_⟩
  · intro k hk'
    rcases List.mem_cons.1 hk' with rfl | hk'
    · exact b2
    · exact (h.osep k (by simpa using hk')).1
  · rw [hk.cell (p := ⟨bl, 0, none⟩) b4 ?_]
    · exact h.box
    · rintro hk'
      rcases List.mem_cons.1 hk' with e | hk'
      · exact b5 e
      · exact (h.osep bl (by simpa using hk')).2.1 rfl
  · intro hk'
    rcases List.mem_cons.1 hk' with e | hk'
    · exact b7 e.symm
    · exact (h.osep bt (by simpa using hk')).2.2 rfl
  · intro k e
    rcases ho with rfl | ⟨k', e', hk'⟩
    · exact h.osep k e
    · rw [e] at e'
      cases e'
      exact ⟨by omega, by omega, by omega⟩
  · intro k e
    obtain ⟨g1, g2, g3, g4, g5, g6⟩ := h.gsep k e
    refine ⟨g1, Nat.lt_of_lt_of_le g2 hk.size, g3, g4, g5, ?_⟩
    rcases ho with rfl | ⟨k', e', hk'⟩
    · exact g6
    · intro e2
      rw [e2] at e'
      cases e'
      omega
theorem Core.mark {w0 : World} {A : Option Addr} {ln : List Nat} {cap bl bb bt : Nat} {o g : Option Nat} {txt : List UInt8} {M M' : Nat → Bool} {w w' : World} (h : Core w0 A ln cap bl bb bt o g txt M w) (ht : Tally bt ln.length M' w') (hk : Kept [bt] w w') : Core w0 A ln cap bl bb bt o g txt M' w' := by
  obtain ⟨b1, b2, b3, b4, b5, b6, b7⟩ := h.base
  have hsz := h.below.size
  refine ⟨h.runes, h.below.trans (hk.below hsz (by simpa using b3)), ?_, h.bld.kept hk (by simpa using b7) (fun k e => by have := (h.osep k e).2.2; simpa using this), ht, ⟨b1, b2, b3, Nat.lt_of_lt_of_le b4 hk.size, b5, b6, b7⟩, h.osep, ?_⟩
  · rw [hk.cell (p := ⟨bl, 0, none⟩) b4 (by simpa using b6)]
    exact h.box
  · intro k e
    obtain ⟨g1, g2, g3, g4, g5, g6⟩ := h.gsep k e
    exact ⟨g1, Nat.lt_of_lt_of_le g2 hk.size, g3, g4, g5, g6⟩
theorem Core.row {w0 : World} {A : Option Addr} {ln : List Nat} {cap bl bb bt : Nat} {o g g' : Option Nat} {txt : List UInt8} {M : Nat → Bool} {w w' : World} (h : Core w0 A ln cap bl bb bt o g txt M w) (hk : Kept g.toList w w') (hg : g' = g ∨ ∃ k, g' = some k ∧ w.heap.size ≤ k ∧ k < w'.heap.size) : Core w0 A ln cap bl bb bt o g' txt M w' := by
  obtain ⟨b1, b2, b3, b4, b5, b6, b7⟩ := h.base
  have hsz := h.below.size
  have ht := h.tal.1
  have hbb := h.bld.lt
  have hol := h.bld.olt
  refine ⟨h.runes, h.below.trans (hk.below hsz (fun k hk' => (h.gsep k (by simpa using hk')).1)), ?_, h.bld.kept hk ?_ ?_, h.tal.kept hk ?_, ⟨b1, b2, b3, Nat.lt_of_lt_of_le b4 hk.size, b5, b6, b7⟩, h.osep, ?_⟩
  · rw [hk.cell (p := ⟨bl, 0, none⟩) b4 (fun hk' => (h.gsep bl (by simpa using hk')).2.2.1 rfl)]
    exact h.box
  · exact fun hk' => (h.gsep bb (by simpa using hk')).2.2.2.1 rfl
  · exact fun k e hk' => (h.gsep k (by simpa using hk')).2.2.2.2.2 e
  · exact fun hk' => (h.gsep bt (by simpa using hk')).2.2.2.2.1 rfl
  · intro k e
    rcases hg with rfl | ⟨k', e', hk1, hk2⟩
    · obtain ⟨g1, g2, g3, g4, g5, g6⟩ := h.gsep k e
      exact ⟨g1, Nat.lt_of_lt_of_le g2 hk.size, g3, g4, g5, g6⟩
    · rw [e] at e'
      cases e'
      refine ⟨by omega, hk2, by omega, by omega, by omega, fun e2 => ?_⟩
      have := hol _ e2
      omega
theorem Core.drewN {w0 : World} {A : Option Addr} {ln : List Nat} {cap bl bb bt : Nat} {o g : Option Nat} {txt : List UInt8} {M : Nat → Bool} {w : World} (h : Core w0 A ln cap bl bb bt o g txt M w) (n : Nat) : Core w0 A ln cap bl bb bt o g txt M (w.drewN n) :=
  ⟨h.runes, below_drewN h.below n, h.box, h.bld, h.tal, h.base, h.osep, h.gsep⟩
theorem Core.rune {w0 : World} {A : Option Addr} {ln : List Nat} {cap bl bb bt : Nat} {o g : Option Nat} {txt : List UInt8} {M : Nat → Bool} {w : World} (h : Core w0 A ln cap bl bb bt o g txt M w) {k : Nat} (hk : k < ln.length) : ∃ b off, A = some ⟨b, off, none⟩ ∧ w.cell? ⟨b, off + k, none⟩ = some (.int .i32 ((ln[k] : Nat) : Int)) := by
  obtain ⟨b, off, e, _, hc⟩ := (h.runes.below h.below) k _ (ints_at ln k hk)
  exact ⟨b, off, e, hc⟩

theorem RowO.shape {v : Value} {O : List Nat} {g : Option Nat} {w : World} (h : RowO v O g w) : (v = .slice none 0 0 ∧ O = []) ∨ ∃ gk c, v = .slice (some ⟨gk, 0, none⟩) O.length c ∧ g = some gk ∧ RowAt gk O w w := by
  obtain ⟨h1, rfl⟩ := h
  rcases h1.2 with ⟨hv, h0⟩ | ⟨gk, cap, cur, hv, _, hg, hn, hc, hcs, htk⟩
  · exact .inl ⟨hv, List.eq_nil_of_length_eq_zero h0⟩
  · refine .inr ⟨gk, cap, hv, by rw [hv]; rfl, ⟨(Array.getElem?_eq_some_iff.1 hg).1, Kept.refl _ _, fun i x hx => ?_⟩⟩
    have hi : i < O.length := (List.getElem?_eq_some_iff.1 hx).1
    refine ⟨?_, Lib.frozen_of_heap hg i⟩
    rw [Lib.cell_of_heap hg]
    have : (cur.toList.take (O.length * 1))[i]? = some (vi x) := by rw [htk, List.getElem?_map, hx]; rfl
    rw [List.getElem?_take, if_pos (by omega)] at this
    rw [← Array.getElem?_toList]
    exact this
/-- Behind so many turns of the second loop. -/
structure Loop2 (w0 : World) (A : Option Addr) (ln : List Nat) (cap bl bb bt : Nat) (o g : Option Nat) (D : List Nat) (t n i bias : Nat) (M : Nat → Bool) (T : List UInt8) (w : World) : Prop where
  core : Core w0 A ln cap bl bb bt o g ((basicOf ln).map UInt8.ofNat ++ (if (basicOf ln).length = 0 then [] else [45]) ++ T) M w
  cell : ∀ (j x : Nat), D[j]? = some x → ∃ gk, g = some gk ∧ w.cell? ⟨gk, j, none⟩ = some (.int .i64 (x : Int))
  run : Run ln M n i bias ((basicOf ln).length + t) T
  left : Left ln M ln.length n i (D.drop t)
  all : ∀ q, q < ln.length → M q = true ∨ q ∈ D.drop t
  count : cnt M ln.length = (basicOf ln).length + t
  bounds : n ≤ 1114111 ∧ i ≤ 200 ∧ bias ≤ 2000000000 ∧ T.length ≤ 10 * t
theorem Core.row_cell {w0 : World} {A : Option Addr} {ln : List Nat} {cap bl bb bt : Nat} {o g : Option Nat} {txt : List UInt8} {M : Nat → Bool} {w w' : World} {S : List Nat} {D : List Nat} (h : Core w0 A ln cap bl bb bt o g txt M w)
    (hc : ∀ (j x : Nat), D[j]? = some x → ∃ gk, g = some gk ∧ w.cell? ⟨gk, j, none⟩ = some (.int .i64 (x : Int))) (hk : Kept S w w') (hs : ∀ k, g = some k → k ∉ S) :
    ∀ (j x : Nat), D[j]? = some x → ∃ gk, g = some gk ∧ w'.cell? ⟨gk, j, none⟩ = some (.int .i64 (x : Int)) := by
  intro j x hx
  obtain ⟨gk, e, hc⟩ := hc j x hx
  exact ⟨gk, e, (hk.cell (p := ⟨gk, j, none⟩) (h.gsep gk e).2.1 (hs gk e)).trans hc⟩
theorem Core.g_bld {w0 : World} {A : Option Addr} {ln : List Nat} {cap bl bb bt : Nat} {o g : Option Nat} {txt : List UInt8} {M : Nat → Bool} {w : World} (h : Core w0 A ln cap bl bb bt o g txt M w) : ∀ k, g = some k → k ∉ bb :: o.toList := by
  intro q e hq
  obtain ⟨s1, s2, s3, s4, s5, s6⟩ := h.gsep q e
  rcases List.mem_cons.1 hq with e2 | hq
  · exact s4 e2
  · exact s6 (by simpa using hq)
theorem Core.g_tal {w0 : World} {A : Option Addr} {ln : List Nat} {cap bl bb bt : Nat} {o g : Option Nat} {txt : List UInt8} {M : Nat → Bool} {w : World} (h : Core w0 A ln cap bl bb bt o g txt M w) : ∀ k, g = some k → k ∉ [bt] :=
  fun q e hq => (h.gsep q e).2.2.2.2.1 (by simpa using hq)
theorem bas_all (ln : List Nat) {D : List Nat} (hD : D.Perm (oth ln ln.length)) : ∀ q, q < ln.length → bas ln ln.length q = true ∨ q ∈ D := by
  intro q hq
  by_cases h : ln.getD q 0 < 128
  · exact .inl (by unfold bas; rw [decide_eq_true hq, decide_eq_true h]; rfl)
  · exact .inr (hD.symm.subset (oth_mem.2 ⟨hq, by omega⟩))
/-- The start of the second loop. -/
theorem Loop2.start {w0 : World} {A : Option Addr} {ln : List Nat} {cap bl bb bt : Nat} {o g : Option Nat} {D : List Nat} {w : World} (hD : D.Perm (oth ln ln.length)) (h : Core w0 A ln cap bl bb bt o g ((basicOf ln).map UInt8.ofNat ++ (if (basicOf ln).length = 0 then [] else [45])) (bas ln ln.length) w)
    (hc : ∀ (j x : Nat), D[j]? = some x → ∃ gk, g = some gk ∧ w.cell? ⟨gk, j, none⟩ = some (.int .i64 (x : Int))) : Loop2 w0 A ln cap bl bb bt o g D 0 128 0 72 (bas ln ln.length) [] w :=
  ⟨by rw [List.append_nil]; exact h, hc, Run.start ln, Left.start hD, bas_all ln hD, cnt_bas ln, by omega, by omega, by omega, by simp⟩
/-- A turn of the second loop. -/
theorem Loop2.next {w0 : World} {A : Option Addr} {ln : List Nat} {cap bl bb bt : Nat} {o o' g : Option Nat} {D : List Nat} {t n i bias p d : Nat} {M : Nat → Bool} {T : List UInt8} {w w1 w2 : World} (h : Loop2 w0 A ln cap bl bb bt o g D t n i bias M T w) (hs : Srt (fun x => (ln.getD x 0 : Int)) D) (hlt : t < D.length) (hp : D[t] = p) (hl : ln.length ≤ 100) (hsc : ∀ c ∈ ln, sc c = true)
    (hd : d = (ln.getD p 0 - n) * (cnt M ln.length + 1) + cnt M p - i) (hd9 : d < 1000000000)
    (hb1 : BldO bb o' ((basicOf ln).map UInt8.ofNat ++ (if (basicOf ln).length = 0 then [] else [45]) ++ T ++ tellK d bias 36) w1) (hb2 : OAt w o o') (hb3 : Kept (bb :: o.toList) w w1) (ht1 : Tally bt ln.length (Go.Proofs.YtmnpefpglpabmaaDoor.mark M p) w2) (ht2 : Kept [bt] w1 w2) :
    Loop2 w0 A ln cap bl bb bt o' g D (t + 1) (ln.getD p 0) (cnt M p + 1) (adapt d ((basicOf ln).length + t + 1) (t == 0)) (Go.Proofs.YtmnpefpglpabmaaDoor.mark M p) (T ++ tellK d bias 36) w2 := by
  have hdrop : D.drop t = p :: D.drop (t + 1) := by rw [List.drop_eq_getElem_cons hlt, hp]
  have hleft := h.left
  rw [hdrop] at hleft
  have hsd : Srt (fun x => (ln.getD x 0 : Int)) (p :: D.drop (t + 1)) := by rw [← hdrop]; exact srt_drop hs t
  obtain ⟨q1, q2, q3, q4⟩ := hleft p (List.mem_cons_self ..)
  have hc1 := h.core.put hb1 hb2 hb3
  have hr := h.run.next hleft hd
  have hbt : ((basicOf ln).length + t == (basicOf ln).length) = (t == 0) := by
    by_cases e : t = 0
    · subst e; simp
    · rw [beq_eq_false_iff_ne.2 e, beq_eq_false_iff_ne.2 (by omega)]
  rw [hbt] at hr
  obtain ⟨r1, r2, r3, r4⟩ := h.bounds
  have hcn := h.count
  have hcp : cnt M p ≤ cnt M ln.length := cnt_mono M (by omega)
  have hclen := cnt_le M ln.length
  refine ⟨?_, ?_, hr, hleft.next hsd, ?_, ?_, ?_, by omega, ?_, ?_⟩
  · rw [← List.append_assoc]
    exact hc1.mark ht1 ht2
  · exact hc1.row_cell (h.core.row_cell h.cell hb3 h.core.g_bld) ht2 hc1.g_tal
  · intro q hq
    rcases h.all q hq with e | e
    · exact .inl (by show (M q || q == p) = true; rw [e]; rfl)
    · rw [hdrop] at e
      rcases List.mem_cons.1 e with rfl | e
      · exact .inl (by show (M q || q == q) = true; simp)
      · exact .inr e
  · rw [cnt_mark M p q2, if_pos q1, hcn]; omega
  · rw [getD_at q1]
    have := sc_lt (hsc _ (List.getElem_mem q1))
    omega
  · have := adapt_le d ((basicOf ln).length + t + 1) (t == 0)
    omega
  · have := tellK_log bias 9 d 36 (by simpa using hd9)
    rw [List.length_append]
    omega

theorem ints_getD (ln : List Nat) : (fun x => (ints ln).getD x 0) = fun x => ((ln.getD x 0 : Nat) : Int) := by
  funext x
  simp only [ints, List.getD_eq_getElem?_getD, List.getElem?_map]
  cases ln[x]? <;> rfl
/-- The sort of the others, and what the second loop starts with. -/
theorem enc_sort {w0 : World} {A : Option Addr} {ln : List Nat} {cap bl bb bt : Nat} {o g : Option Nat} {v : Value} {w : World} (h : Core w0 A ln cap bl bb bt o g ((basicOf ln).map UInt8.ofNat ++ (if (basicOf ln).length = 0 then [] else [45])) (bas ln ln.length) w)
    (hr : RowO v (oth ln ln.length) g w) (hl : ln.length ≤ 100) : ∃ A6 c6, v = .slice A6 (oth ln ln.length).length c6 ∧ (∀ gk, g = some gk → A6 = some ⟨gk, 0, none⟩) ∧
    Calls Tryd.prog 20 #[.slice A6 (oth ln ln.length).length c6, .func (.func 21) #[] #[.pointer (some ⟨bl, 0, none⟩)]] w fun e w5 => e = .returned (.tuple #[]) ∧
      ∃ D, D.length = (oth ln ln.length).length ∧ Srt (fun x => (ln.getD x 0 : Int)) D ∧ Loop2 w0 A ln cap bl bb bt o g D 0 128 0 72 (bas ln ln.length) [] w5 := by
  rcases hr.shape with ⟨rfl, hO⟩ | ⟨gk, c6, rfl, rfl, hrow⟩
  · have hg : g = none := hr.2.symm
    refine ⟨none, 0, by rw [hO]; rfl, by rw [hg]; simp, ?_⟩
    rw [hO]
    refine (sort_none bl 0 none w).mono ?_
    rintro e w5 ⟨rfl, rfl⟩
    refine ⟨rfl, [], rfl, List.Pairwise.nil, Loop2.start (by rw [hO]) h (by simp)⟩
  · refine ⟨some ⟨gk, 0, none⟩, c6, rfl, by rintro gk' e; cases e; rfl, ?_⟩
    obtain ⟨s1, s2, s3, s4, s5, s6⟩ := h.gsep gk rfl
    have hC := q2_any bl A (ints ln) cap gk w (by rw [ints_length]; exact h.box) h.base.2.2.2.1 (Ne.symm s3) (h.runes.below h.below) (fun j c hj => by
      obtain ⟨b, off, e, hb, _⟩ := h.runes j c hj
      exact ⟨b, off, e, by omega⟩)
    rw [ints_length, ints_getD] at hC
    have hol := oth_le ln ln.length
    refine (sort_any _ bl gk c6 (oth ln ln.length).length ln.length (oth ln ln.length) w w (Lib.hid hC) (fun x hx => (oth_mem.1 hx).1) rfl (by omega) (oth_sorted ln ln.length) hrow).mono ?_
    rintro e w5 ⟨rfl, D, hD1, hD2, hD3⟩
    exact ⟨rfl, D, hD1.length_eq, hD2, Loop2.start hD1 (h.row hD3.kept (.inl rfl)) (fun j x hj => ⟨gk, rfl, hD3.c hj⟩)⟩
end Go.Proofs.YtmnpefpglpabmaaDoor

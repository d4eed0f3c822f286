/-
  slices.Insert of one rune into a row of runes of the call's own.
-/
import Derived.Test.YtmnpefpglpabmaaQAsc
import Derived.Shelf.Spec.SlicesInsertGrow
import Derived.Deep.RegionLaw
namespace Go.Proofs.Ytmnpefpglpabmaa
open Go.RowKit

/-- A list with one at a place. -/
def insI (l : List Int) (i : Nat) (c : Int) : List Int := l.take i ++ c :: l.drop i
theorem insI_length (l : List Int) (i : Nat) (c : Int) : (insI l i c).length = l.length + 1 := by simp [insI]; omega
theorem insI_ints (l : List Nat) (i c : Nat) : insI (ints l) i (c : Int) = ints (ins l i c) := by
  unfold insI ins ints
  rw [List.map_append, List.map_cons, List.map_take, List.map_drop]

theorem heap_set_same {w : World} {b i : Nat} {cs : Array Value} {T : TypeId} {fr : Nat × Nat} (hb : w.heap[b]? = some (.cells cs T fr)) (v : Value) :
    (w.setCell ⟨b, i, none⟩ v).heap[b]? = some (.cells (cs.setIfInBounds i v) T fr) := by
  simp [World.setCell, Array.getElem?_modify, hb]
theorem set_cells_block (b : Nat) (T : TypeId) : ∀ (vs : List Value) (o : Nat) (w : World) (cur : Array Value), w.heap[b]? = some (.cells cur T (0, 0)) → o + vs.length ≤ cur.size →
    ∃ cur', (w.setCells b o vs).heap[b]? = some (.cells cur' T (0, 0)) ∧ cur'.toList = cur.toList.take o ++ vs ++ cur.toList.drop (o + vs.length) := by
  intro vs
  induction vs with
  | nil => intro o w cur h _; exact ⟨cur, h, by simp⟩
  | cons v r ih =>
    intro o w cur h hl
    rw [List.length_cons] at hl
    obtain ⟨cur', h1, h2⟩ := ih (o + 1) (w.setCell ⟨b, o, none⟩ v) (cur.setIfInBounds o v) (heap_set_same (i := o) h v) (by simp; omega)
    refine ⟨cur', h1, ?_⟩
    rw [h2, Array.toList_setIfInBounds]
    have hol : o < cur.toList.length := by simp; omega
    rw [List.set_eq_take_append_cons_drop, if_pos hol]
    have e1 : (cur.toList.take o ++ v :: cur.toList.drop (o + 1)).take (o + 1) = cur.toList.take o ++ [v] := by
      rw [List.take_append, List.length_take, show min o cur.toList.length = o by omega, List.take_of_length_le (by simp; omega), show o + 1 - o = 1 by omega]; rfl
    have e2 : (cur.toList.take o ++ v :: cur.toList.drop (o + 1)).drop (o + 1 + r.length) = cur.toList.drop (o + 1 + r.length) := by
      rw [List.drop_append, List.length_take, show min o cur.toList.length = o by omega, List.drop_eq_nil_of_le (by simp; omega), show o + 1 + r.length - o = r.length + 1 by omega, List.drop_succ_cons, List.drop_drop, List.nil_append]
    rw [e1, e2, List.length_cons, show o + (r.length + 1) = o + 1 + r.length by omega]
    simp
theorem below_setCells {B : Nat} {a : World} (b : Nat) (hb : B ≤ b) : ∀ (vs : List Value) (o : Nat) (w : World), Below B a w → Below B a (w.setCells b o vs) := by
  intro vs
  induction vs with
  | nil => intro o w h; exact h
  | cons v r ih => intro o w h; exact ih (o + 1) _ (h.setCell (p := ⟨b, o, none⟩) hb v)

def InsPost (B : Nat) (l : List Int) (i : Nat) (c : Int) (w : World) (e : Ending) (w' : World) : Prop := ∃ v', e = .returned v' ∧ RowN B w' v' (insI l i c) ∧ Below B w w'

set_option maxHeartbeats 1000000 in
set_option maxRecDepth 100000 in
/-- At the end. -/
theorem put_end (B : Nat) (v : Value) (l : List Int) (c : Int) (vb : Nat) (w : World) (h : RowN B w v l) (hB : B ≤ w.heap.size) (hl : l.length ≤ 3000) (hv : Runes w (some ⟨vb, 0, none⟩) [c]) :
    Calls Try.prog 32 #[v, .int .i64 l.length, .slice (some ⟨vb, 0, none⟩) 1 1] w (InsPost B l l.length c w) := by
  obtain ⟨A, cap, rfl, hAc⟩ : ∃ A cap, v = .slice A l.length cap ∧ ((A = none ∧ l.length = 0 ∧ cap = 0) ∨ ((∃ g, A = some ⟨g, 0, none⟩) ∧ l.length ≤ cap ∧ cap ≤ maxLen)) := by
    rcases h.2 with ⟨rfl, h0⟩ | ⟨g, cap, cur, rfl, _, _, h1, h2, _⟩
    · exact ⟨none, 0, by rw [h0], .inl ⟨rfl, h0, rfl⟩⟩
    · exact ⟨_, cap, rfl, .inr ⟨⟨g, rfl⟩, h1, h2⟩⟩
  have HR := Lib.hid h
  have HV := Lib.hid hv
  clear h hv
  have hself : ((l.length : Int) == (l.length : Int)) = true := by simp
  rcases hAc with ⟨rfl, h0, rfl⟩ | ⟨⟨g, rfl⟩, hc1, hc2⟩
  · have hl0 : l = [] := List.eq_nil_of_length_eq_zero h0
    subst hl0
    go_enter Try.func32, Try.ntmps32
    go_wp2_with (at_builtin
                 refine append_from rfl (.tmp 23) (.tmp 24) rfl B _ [] _ 1 1 [c] rfl rfl HR.out HV.out rfl (by simp) (by simp) hB ?_
                 intro v' w2 h2 hb2)
    go_ret
    exact ⟨_, rfl, h2, hb2⟩
  · unfold maxLen at hc2
    go_enter Try.func32, Try.ntmps32
    go_wp2_with (at_builtin
                 refine append_from rfl (.tmp 23) (.tmp 24) rfl B _ l _ 1 1 [c] rfl rfl HR.out HV.out rfl (by simp) (by simp; omega) hB ?_
                 intro v' w2 h2 hb2)
    all_goals
      go_ret
      refine ⟨_, rfl, ?_, hb2⟩
      unfold insI
      rw [List.take_length, List.drop_length]
      exact h2

set_option maxHeartbeats 4000000 in
set_option maxRecDepth 100000 in
/-- In place. -/
theorem put_shift (B g n cap i : Nat) (l : List Int) (c : Int) (vb : Nat) (cur : Array Value) (w : World) (hn : n = l.length) (hg : w.heap[g]? = some (.cells cur 21 (0, 0))) (hcur : cur.size = cap) (htk : cur.toList.take n = l.map (Value.int .i32)) (hBg : B ≤ g) (hi : i < n) (hroom : n + 1 ≤ cap) (hc63 : cap ≤ maxLen) (hl : n ≤ 3000)
    (hv : w.heap[vb]? = some (.cells #[.int .i32 c] 21 (0, 0))) (hvb : vb ≠ g) :
    Calls Try.prog 32 #[.slice (some ⟨g, 0, none⟩) n cap, .int .i64 i, .slice (some ⟨vb, 0, none⟩) 1 1] w (InsPost B l i c w) := by
  have hsz : (Try.prog.info? 21).map (·.size) = some 1 := by
    obtain ⟨i0, hi0, h0, h1, h2⟩ := info_parts Try.infoR
    rw [hi0]; simp [h1]
  have hcell : ∀ j, w.cell? ⟨g, j, none⟩ = cur[j]? := fun j => by rw [Lib.cell_of_heap hg]
  have hcs : ∀ (j : Nat) (u : Value), (l.map (Value.int .i32))[j]? = some u → w.cell? ⟨g, j, none⟩ = some u := fun j u hj => by
    rw [← htk, List.getElem?_take] at hj
    split at hj
    · rw [hcell, ← Array.getElem?_toList]; exact hj
    · cases hj
  have hsp : ∀ j, j < n + 1 → (w.cell? ⟨g, j, none⟩).isSome = true := fun j hj => by rw [hcell, Array.getElem?_eq_getElem (by omega)]; rfl
  have hfz : ∀ j, w.frozen? ⟨g, j, none⟩ = false := fun j => Lib.frozen_of_heap hg j
  have hvs : ∀ (j : Nat) (u : Value), [Value.int .i32 c][j]? = some u → w.cell? ⟨vb, j, none⟩ = some u := fun j u hj => by
    rw [Lib.cell_of_heap hv]
    simpa using hj
  have hov : ∀ lb cb, (callFunc 44 #[.slice (some ⟨vb, 0, none⟩) 1 1, .slice (some ⟨g, i + 1, none⟩) lb cb]).run Try.prog w = .ok (.value (.bool false)) w := fun lb cb => by
    rw [run_callFunc_extern Try.func44 (by kernel_rfl) (by kernel_rfl) (by kernel_rfl) (e := Extern.SlicesOverlaps.overlaps #[22, 22] #[4]) (by kernel_rfl),
      Lib.run_overlaps_apart w 22 4 21 Try.underlying22 1 Try.sizeOf21 ⟨vb, 0, none⟩ ⟨g, i + 1, none⟩ 1 1 lb cb hvb 21 21 1 cap (by simp [World.shape?, hv]) (by simp [World.shape?, hg, hcur]) (by omega) (Lib.frozen_of_heap hv 0) (Lib.frozen_of_heap hv 1)]
    rfl
  have hdl : ((l.map (Value.int .i32)).drop i).length = n - i := by rw [List.length_drop, List.length_map, hn]
  have h1c : ∀ u ∈ l.map (Value.int .i32), u.oneCell' = true := fun u hu => by obtain ⟨y, _, rfl⟩ := List.mem_map.1 hu; rfl
  have hcp1 : ∀ ty dc sc, (Builtin.copy_ #[22, 22] ty #[.slice (some ⟨g, i + 1, none⟩) (n - i) dc, .slice (some ⟨g, i, none⟩) (n + 1 - i) sc]).run Try.prog w.drew = .ok (goInt ((l.map (Value.int .i32)).drop i).length) (w.drew.setCells g (i + 1) ((l.map (Value.int .i32)).drop i)) := fun ty dc sc =>
    run_copy_cells w.drew _ _ ty 21 g (i + 1) (n - i) dc ⟨g, i, none⟩ (n + 1 - i) sc ((l.map (Value.int .i32)).drop i) Try.underlying22 hsz (by rw [hdl]; simp only [Nat.min_def]; split <;> omega)
      (fun j u hj => by rw [Addr.add_lit]; exact hcs (i + j) u (by rwa [List.getElem?_drop] at hj))
      (fun j hj => hsp _ (by omega)) (fun j hj => hfz _) (fun u hu => h1c u (List.mem_of_mem_drop hu))
  obtain ⟨cur1, hg1, hcur1⟩ := set_cells_block g 21 ((l.map (Value.int .i32)).drop i) (i + 1) w.drew cur hg (by rw [hdl]; omega)
  obtain ⟨W1, hW1⟩ : ∃ W1, W1 = w.drew.setCells g (i + 1) ((l.map (Value.int .i32)).drop i) := ⟨_, rfl⟩
  rw [← hW1] at hg1 hcp1
  have hsz1 : cur1.size = cap := by
    have := congrArg List.length hcur1
    simp at this
    omega
  have hcp2 : ∀ (W : World), (∀ x, W.cell? x = W1.cell? x) → (∀ x, W.frozen? x = W1.frozen? x) → ∀ ty dc, (Builtin.copy_ #[22, 22] ty #[.slice (some ⟨g, i, none⟩) (n + 1 - i) dc, .slice (some ⟨vb, 0, none⟩) 1 1]).run Try.prog W = .ok (goInt [Value.int .i32 c].length) (W.setCells g i [.int .i32 c]) := fun W hWc hWf ty dc =>
    run_copy_cells W _ _ ty 21 g i (n + 1 - i) dc ⟨vb, 0, none⟩ 1 1 [.int .i32 c] Try.underlying22 hsz (by simp only [Nat.min_def, List.length_singleton]; split <;> omega)
      (fun j u hj => by
        rw [Addr.add_lit, hWc, hW1, World.cell?_setCells_out g _ _ _ _ (fun h _ => absurd h hvb), Nat.zero_add]
        exact hvs j u hj)
      (fun j hj => by rw [hWc, Lib.cell_of_heap hg1, Array.getElem?_eq_getElem (by simp at hj; omega)]; rfl) (fun j hj => by rw [hWf]; exact Lib.frozen_of_heap hg1 _) (by simp [Value.oneCell'])
  obtain ⟨cur2, hg2, hcur2⟩ := set_cells_block g 21 [.int .i32 c] i W1 cur1 hg1 (by simp; omega)
  have HF : Hid (RowN B (W1.setCells g i [.int .i32 c]) (.slice (some ⟨g, 0, none⟩) (n + 1) cap) (insI l i c) ∧ Below B w (W1.setCells g i [.int .i32 c])) := by
    have hsz2 : cur2.size = cap := by
      have := congrArg List.length hcur2
      simp at this
      omega
    have hti : cur.toList.take i = (l.map (Value.int .i32)).take i := by rw [← htk, List.take_take, show min i n = i by omega]
    have e1 : cur1.toList.take i = (l.map (Value.int .i32)).take i := by
      rw [hcur1, List.append_assoc, List.take_append_of_le_length (by simp; omega), List.take_take, show min i (i + 1) = i by omega, hti]
    have e2 : cur1.toList.drop (i + 1) = (l.map (Value.int .i32)).drop i ++ cur.toList.drop (n + 1) := by
      have hq : (cur.toList.take (i + 1)).length = i + 1 := by simp; omega
      rw [hcur1, List.append_assoc, List.drop_append, hq, List.drop_eq_nil_of_le (by omega), Nat.sub_self, List.drop_zero, List.nil_append, hdl, show i + 1 + (n - i) = n + 1 by omega]
    refine ⟨⟨by simp, .inr ⟨g, cap, cur2, by rw [insI_length, ← hn], hBg, hg2, by rw [insI_length, ← hn]; exact hroom, hc63, by rw [hsz2, Nat.mul_one], ?_⟩⟩, below_setCells g hBg _ _ _ (by rw [hW1]; exact below_setCells g hBg _ _ _ (below_drewN (Below.refl _ _) 1))⟩
    rw [hcur2, e1, List.length_singleton, e2, insI_length, ← hn, Nat.mul_one]
    have hq2 : ((l.map (Value.int .i32)).take i ++ [Value.int .i32 c] ++ (l.map (Value.int .i32)).drop i).length = n + 1 := by simp; omega
    rw [← List.append_assoc, List.take_left' hq2]
    unfold insI
    rw [List.map_append, List.map_cons, List.map_take, List.map_drop]
    simp
  unfold maxLen at hc63
  have hz2 : ¬ ((i : Int) = (n : Int)) := by omega
  have hin : i ≤ n := by omega
  have hb2 : ¬ (cap = i + 1) := by omega
  have hb3 : (i : Int) ≤ (n : Int) + 1 := by omega
  have hb4 : ¬ (cap = i) := by omega
  have hw1 : IntKind.i64.wrap ((i : Int) + 1) = (i : Int) + 1 := by rw [IntKind.wrap_i64]; omega
  have hb1 : (0 : Int) ≤ (i : Int) + 1 := by omega
  have htn : ((i : Int) + 1).toNat = i + 1 := by omega
  clear hn hg hcur htk hcell hcs hsp hfz hvs h1c hdl hg1 hcur1 hsz1 hg2 hcur2 hv hsz hW1
  go_enter Try.func32, Try.ntmps32
  go_wp2_with (simp only [hov])
  go_region_law (refine step_copy_runI rfl _ _ 22 22 rfl _ _ (by simp [Act.eval, Act.put]) (by simp [Act.eval, Act.put]) (hcp1 _ _ _) ?_)
  go_wp2_with (at_builtin; refine wpList_copy_runI _ rfl _ _ 22 22 rfl _ _ rfl rfl (hcp2 _ (fun _ => rfl) (fun _ => rfl) _ _) ?_)
  go_ret
  exact ⟨_, rfl, HF.out⟩

set_option maxHeartbeats 4000000 in
set_option maxRecDepth 100000 in
/-- No room: a new row. -/
theorem put_grow (B g n i : Nat) (l : List Int) (c : Int) (vb : Nat) (cur : Array Value) (w : World) (hn : n = l.length) (hg : w.heap[g]? = some (.cells cur 21 (0, 0))) (htk : cur.toList.take n = l.map (Value.int .i32)) (hcur : cur.size = n) (hB : B ≤ w.heap.size) (hi : i < n) (hl : n ≤ 3000)
    (hv : w.heap[vb]? = some (.cells #[.int .i32 c] 21 (0, 0))) :
    Calls Try.prog 32 #[.slice (some ⟨g, 0, none⟩) n n, .int .i64 i, .slice (some ⟨vb, 0, none⟩) 1 1] w (InsPost B l i c w) := by
  obtain ⟨i0, hi0, hz0, hzs, hzb⟩ := info_parts Try.infoR
  have hsz : (Try.prog.info? 21).map (·.size) = some 1 := by rw [hi0]; simp [hzs]
  have hcell : ∀ j, w.cell? ⟨g, j, none⟩ = cur[j]? := fun j => by rw [Lib.cell_of_heap hg]
  have hcs : ∀ (j : Nat) (u : Value), (l.map (Value.int .i32))[j]? = some u → w.cell? ⟨g, j, none⟩ = some u := fun j u hj => by
    rw [← htk, List.getElem?_take] at hj
    split at hj
    · rw [hcell, ← Array.getElem?_toList]; exact hj
    · cases hj
  have hvs : ∀ (j : Nat) (u : Value), [Value.int .i32 c][j]? = some u → w.cell? ⟨vb, j, none⟩ = some u := fun j u hj => by
    rw [Lib.cell_of_heap hv]
    simpa using hj
  have h1c : ∀ u ∈ l.map (Value.int .i32), u.oneCell' = true := fun u hu => by obtain ⟨y, _, rfl⟩ := List.mem_map.1 hu; rfl
  have hbw : g < w.heap.size := (Array.getElem?_eq_some_iff.1 hg).1
  have hvw : vb < w.heap.size := (Array.getElem?_eq_some_iff.1 hv).1
  have hll : (l.map (Value.int .i32)).length = n := by rw [List.length_map, hn]
  have hkk : (n : Int) + 1 - (i : Int) = ((n + 1 - i : Nat) : Int) := by omega
  have hik : i + (n + 1 - i) = n + 1 := by omega
  have hold : (Builtin.firstCells i0.size i (.slice (some ⟨g, 0, none⟩) i n)).run Try.prog w.drew = .ok ((l.map (Value.int .i32)).take i).toArray w.drew := by
    rw [hzs]
    exact run_firstCells_some w.drew 1 i ⟨g, 0, none⟩ i n ((l.map (Value.int .i32)).take i) (by rw [List.length_take]; omega) (fun j u hj => by
      rw [Addr.add_lit]
      rw [List.getElem?_take] at hj
      split at hj
      · rw [Nat.zero_add]; exact hcs j u hj
      · cases hj)
  have hrz : ∀ ty, (Builtin.append_ #[22, 3] ty #[.slice (some ⟨g, 0, none⟩) i n, .int .i64 ((n : Int) + 1 - (i : Int))]).run Try.prog w =
      .ok (.slice (some ⟨w.heap.size, 0, none⟩) (n + 1) (grownCap w (n + 1) n 21)) (w.drew.alloc (.cells (((l.map (Value.int .i32)).take i).toArray ++ Builtin.zeroCells (Value.int .i32 0).cells (n + 1 - i) ++ Builtin.zeroCells (Value.int .i32 0).cells (grownCap w (n + 1) n 21 - (n + 1))) 21)) := fun ty => by
    have h := Lib.run_append_grow_zeros w 22 3 ty 21 i0 _ .i64 .i64 Try.underlying22 Try.underlying3 hi0 hz0 (some ⟨g, 0, none⟩) i n ((l.map (Value.int .i32)).take i) hold (n + 1 - i) (by omega) (by omega) (by omega) (by omega) (by rw [hzb]; omega) (by rw [hzb, hik]; exact growslice_fits (by omega) (by omega))
    rw [hik] at h
    rw [hkk]
    exact h
  obtain ⟨G, hG⟩ : ∃ G, G = grownCap w (n + 1) n 21 := ⟨_, rfl⟩
  obtain ⟨ROW, hROW⟩ : ∃ ROW : Array Value, ROW = ((l.map (Value.int .i32)).take i).toArray ++ Builtin.zeroCells (Value.int .i32 0).cells (n + 1 - i) ++ Builtin.zeroCells (Value.int .i32 0).cells (G - (n + 1)) := ⟨_, rfl⟩
  rw [← hG] at hrz
  rw [← hROW] at hrz
  have hGn : n + 1 ≤ G := by rw [hG]; exact grownCap_ge w _ _ _
  have hG63 : G ≤ maxLen := by rw [hG]; exact grownCap_le_maxLen w (n + 1) n 21 (by unfold maxLen; omega)
  have hRs : ROW.size = G := by
    rw [hROW]
    simp [Builtin.zeroCells, Value.cells]
    omega
  have hRt : ROW.toList.take i = (l.map (Value.int .i32)).take i := by
    rw [hROW]
    simp only [Array.toList_append, List.append_assoc]
    rw [List.take_append_of_le_length (by simp; omega), List.take_of_length_le (by simp; omega)]
  clear hROW hG
  obtain ⟨W1, hW1⟩ : ∃ W1, W1 = w.drew.alloc (.cells ROW 21) := ⟨_, rfl⟩
  rw [← hW1] at hrz
  have hg1 : W1.heap[w.heap.size]? = some (.cells ROW 21 (0, 0)) := by rw [hW1]; exact heap_alloc_new _ _
  have hOld : ∀ k, k < w.heap.size → W1.heap[k]? = w.heap[k]? := fun k hk => by rw [hW1]; exact Below.heap_alloc _ _ _ hk
  have hcpA : ∀ (W : World), (∀ x, W.cell? x = W1.cell? x) → (∀ x, W.frozen? x = W1.frozen? x) → ∀ ty dc, (Builtin.copy_ #[22, 22] ty #[.slice (some ⟨w.heap.size, i, none⟩) (n + 1 - i) dc, .slice (some ⟨vb, 0, none⟩) 1 1]).run Try.prog W = .ok (goInt [Value.int .i32 c].length) (W.setCells w.heap.size i [.int .i32 c]) := fun W hWc hWf ty dc =>
    run_copy_cells W _ _ ty 21 w.heap.size i (n + 1 - i) dc ⟨vb, 0, none⟩ 1 1 [.int .i32 c] Try.underlying22 hsz (by simp only [Nat.min_def, List.length_singleton]; split <;> omega)
      (fun j u hj => by rw [Addr.add_lit, hWc, World.cell?_of_block (w := w) (hOld vb hvw), Nat.zero_add]; exact hvs j u hj)
      (fun j hj => by rw [hWc, Lib.cell_of_heap hg1, Array.getElem?_eq_getElem (by simp at hj; omega)]; rfl) (fun j hj => by rw [hWf]; exact Lib.frozen_of_heap hg1 _) (by simp [Value.oneCell'])
  obtain ⟨cur1, hg2, hcur1⟩ := set_cells_block w.heap.size 21 [.int .i32 c] i W1 ROW hg1 (by simp; omega)
  have hdl : ((l.map (Value.int .i32)).drop i).length = n - i := by rw [List.length_drop, hll]
  have hs1 : cur1.size = G := by
    have := congrArg List.length hcur1
    simp at this
    omega
  have hcpB : ∀ (W : World), (∀ x, W.cell? x = (W1.setCells w.heap.size i [.int .i32 c]).cell? x) → (∀ x, W.frozen? x = (W1.setCells w.heap.size i [.int .i32 c]).frozen? x) → ∀ ty dc sc, (Builtin.copy_ #[22, 22] ty #[.slice (some ⟨w.heap.size, i + 1, none⟩) (n - i) dc, .slice (some ⟨g, i, none⟩) (n - i) sc]).run Try.prog W = .ok (goInt ((l.map (Value.int .i32)).drop i).length) (W.setCells w.heap.size (i + 1) ((l.map (Value.int .i32)).drop i)) := fun W hWc hWf ty dc sc =>
    run_copy_cells W _ _ ty 21 w.heap.size (i + 1) (n - i) dc ⟨g, i, none⟩ (n - i) sc ((l.map (Value.int .i32)).drop i) Try.underlying22 hsz (by rw [hdl]; simp)
      (fun j u hj => by
        rw [Addr.add_lit, hWc, World.cell?_setCells_out _ _ _ _ _ (fun h _ => by exfalso; change g = w.heap.size at h; omega), World.cell?_of_block (w := w) (hOld g hbw)]
        exact hcs (i + j) u (by rwa [List.getElem?_drop] at hj))
      (fun j hj => by rw [hWc, Lib.cell_of_heap hg2, Array.getElem?_eq_getElem (by omega)]; rfl)
      (fun j hj => by rw [hWf]; exact Lib.frozen_of_heap hg2 _) (fun u hu => h1c u (List.mem_of_mem_drop hu))
  have HF : Hid (∀ W : World, W.heap = (W1.setCells w.heap.size i [.int .i32 c]).heap → Below B w W → RowN B (W.setCells w.heap.size (i + 1) ((l.map (Value.int .i32)).drop i)) (.slice (some ⟨w.heap.size, 0, none⟩) (n + 1) G) (insI l i c) ∧ Below B w (W.setCells w.heap.size (i + 1) ((l.map (Value.int .i32)).drop i))) := by
    intro W hW hbl
    obtain ⟨cur2, hg3, hcur2⟩ := set_cells_block w.heap.size 21 ((l.map (Value.int .i32)).drop i) (i + 1) W cur1 (by rw [hW]; exact hg2) (by rw [hdl]; omega)
    have hs2 : cur2.size = G := by
      have := congrArg List.length hcur2
      simp at this
      omega
    refine ⟨⟨by simp, .inr ⟨w.heap.size, G, cur2, by rw [insI_length, ← hn], hB, hg3, by rw [insI_length, ← hn]; exact hGn, hG63, by rw [hs2, Nat.mul_one], ?_⟩⟩, below_setCells _ hB _ _ _ hbl⟩
    have e1 : cur1.toList.take (i + 1) = (l.map (Value.int .i32)).take i ++ [Value.int .i32 c] := by
      have hq : (ROW.toList.take i ++ [Value.int .i32 c]).length = i + 1 := by simp; omega
      rw [hcur1, List.take_left' hq, hRt]
    rw [hcur2, e1, insI_length, ← hn, Nat.mul_one]
    have hq2 : ((l.map (Value.int .i32)).take i ++ [Value.int .i32 c] ++ (l.map (Value.int .i32)).drop i).length = n + 1 := by simp; omega
    rw [List.take_left' hq2]
    unfold insI
    rw [List.map_append, List.map_cons, List.map_take, List.map_drop]
    simp
  have hbel : Below B w W1 := by rw [hW1]; exact (below_drewN (Below.refl _ _) 1).alloc hB _
  unfold maxLen at hG63
  have hz2 : ¬ ((i : Int) = (n : Int)) := by omega
  have hz3 : (n : Int) < (n : Int) + 1 := by omega
  have hGi : ¬ (G = i) := by omega
  have hGim : ¬ (G = i + 1) := by omega
  have hci : ¬ (n = i) := by omega
  have hin : i ≤ n := by omega
  have hb3 : (i : Int) ≤ (n : Int) := by omega
  have hw1 : IntKind.i64.wrap ((i : Int) + 1) = (i : Int) + 1 := by rw [IntKind.wrap_i64]; omega
  have hb1 : (0 : Int) ≤ (i : Int) + 1 := by omega
  have htn : ((i : Int) + 1).toNat = i + 1 := by omega
  have HB := Lib.hid hbel
  clear hn hg hcur htk hcell hcs hvs h1c hdl hll hg1 hOld hcur1 hs1 hg2 hv hsz hkk hik hold hbel hi0 hz0 hzs hzb hRs hRt
  subst hW1
  have hA1 := hcpA ((w.alloc (.cells ROW 21)).drew) (fun _ => rfl) (fun _ => rfl)
  have hB1 := hcpB (((w.alloc (.cells ROW 21)).drew.setCells w.heap.size i [.int .i32 c]).drew) (fun _ => rfl) (fun _ => rfl)
  have HF1 := Lib.hid (HF.out (((w.alloc (.cells ROW 21)).drew.setCells w.heap.size i [.int .i32 c]).drew) rfl (below_drewN (below_setCells _ hB _ _ _ (below_drewN ((Below.refl _ _).alloc hB _) 1)) 1))
  clear hcpA hcpB HF
  go_enter Try.func32, Try.ntmps32
  go_wp2_with (first
    | (at_builtin; refine Lib.wpList_append_run _ rfl _ _ _ _ rfl _ _ rfl rfl _ _ (hrz _) ?_)
    | (at_builtin; refine wpList_copy_runI _ rfl _ _ 22 22 rfl _ _ rfl rfl (hA1 _ _) ?_))
  go_region_law (refine step_copy_runI rfl _ _ 22 22 rfl _ _ (by simp [Act.eval, Act.put]) (by simp [Act.eval, Act.put]) (hB1 _ _ _) ?_)
  go_wp2
  go_ret
  exact ⟨_, rfl, HF1.out⟩

/-- One put at a place. -/
theorem qput_any (B : Nat) (v : Value) (l : List Int) (i : Nat) (c : Int) (vb : Nat) (w : World) (h : RowN B w v l) (hB : B ≤ w.heap.size) (hi : i ≤ l.length) (hl : l.length ≤ 3000) (hv : w.heap[vb]? = some (.cells #[.int .i32 c] 21 (0, 0))) (hvb : v.ownBlock ≠ some vb) :
    Calls Try.prog 32 #[v, .int .i64 i, .slice (some ⟨vb, 0, none⟩) 1 1] w (InsPost B l i c w) := by
  by_cases e : i = l.length
  · subst e
    refine put_end B v l c vb w h hB hl ?_
    intro j x hj
    refine ⟨vb, 0, rfl, (Array.getElem?_eq_some_iff.1 hv).1, ?_⟩
    rw [Lib.cell_of_heap hv]
    cases j with
    | zero => simp at hj; subst hj; rfl
    | succ j => simp at hj
  · rcases h.2 with ⟨rfl, h0⟩ | ⟨g, cap, cur, rfl, hBg, hg, h1, h2, h3, h4⟩
    · omega
    · rw [Nat.mul_one] at h3 h4
      have hne : vb ≠ g := fun e => hvb (by rw [e]; rfl)
      by_cases hr : l.length + 1 ≤ cap
      · exact put_shift B g l.length cap i l c vb cur w rfl hg h3 h4 hBg (by omega) hr h2 hl hv hne
      · obtain rfl : cap = l.length := by omega
        exact put_grow B g l.length i l c vb cur w rfl hg h4 h3 hB (by omega) hl hv
end Go.Proofs.Ytmnpefpglpabmaa

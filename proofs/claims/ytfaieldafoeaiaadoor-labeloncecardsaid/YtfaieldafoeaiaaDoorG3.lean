/-
  In this text, one behind the other: KBar, KMap, KMade, KComp, KFold, LRef, LOne, FBase, FSmall, HSmall, HFind, JSpan, JMath, JTell, JPair, JAdd, JBox, FReflect.
-/
import Derived.Deep.RegionHeld3
import Derived.Deep.AppendLies
import Derived.Laws.AppendOwnNone
import Derived.WalkKit
import Derived.WalkSpells
import Derived.WalkLawsBesides
import Derived.Lib.Hide
import Derived.LaidEql
import Derived.Stop.Asserts
import Derived.RowKitTokens
import Derived.Deep.LoopGhost
import Derived.Test.YtfaieldafoeaiaaDoorG1
import Derived.Test.YtfaieldafoeaiaaDoorG2
import Derived.Test.YtfaieldafoeaiaaDoorRows
/-
  The document's barred, Map, made of layer 5, by their contracts.
-/
namespace Go.Proofs.YtfaieldafoeaiaaDoor
open Go.RowKit

end Go.Proofs.YtfaieldafoeaiaaDoor

/-
  The document's Map of layer 5, by their contracts.
-/
namespace Go.Proofs.YtfaieldafoeaiaaDoor
open Go.RowKit

/-- A slice that a call has laid anew. -/
theorem made_new (w : World) (l : List Int) (v : Value) (hv : v = .slice (some ⟨w.heap.size, 0, none⟩) l.length l.length) (hl : l.length ≤ 1000) : Made w (w.alloc (.cells (l.map (Value.int .i32)).toArray 21)) v l := by
  subst hv
  refine ⟨⟨by simp, .inr ⟨w.heap.size, l.length, (l.map (Value.int .i32)).toArray, rfl, Nat.le_refl _, heap_alloc_new w _, Nat.le_refl _, by simp only [maxLen]; omega, by simp, by simp [List.take_of_length_le]⟩⟩, (Below.refl _ _).alloc (Nat.le_refl _) _⟩
theorem made_one (w : World) (x y : Int) (h : x = y) : Made w (w.alloc (.cells #[.int .i32 x] 21)) (.slice (some ⟨w.heap.size, 0, none⟩) 1 1) [y] := by
  subst h
  exact made_new w [x] _ rfl (by simp)
theorem m_none {c : Int} (h : c = 173 ∨ c = 8203 ∨ c = 8288 ∨ c = 65279) : mapTo c = [] := by unfold mapTo; rw [if_pos h]
theorem m_dot {c : Int} (h : c = 12290 ∨ c = 65377) : mapTo c = [46] := by unfold mapTo; rw [if_neg (by omega), if_pos h]
theorem m_rest {c : Int} (h1 : ¬ (c = 173 ∨ c = 8203 ∨ c = 8288 ∨ c = 65279)) (h2 : ¬ (c = 12290 ∨ c = 65377)) : mapTo c = down (wide c) := by unfold mapTo; rw [if_neg h1, if_neg h2]
theorem wide_in {c : Int} (h : 65281 ≤ c ∧ c ≤ 65374) : wide c = c - 65248 := by unfold wide; rw [if_pos h]
theorem wide_out {c : Int} (h : ¬ (65281 ≤ c ∧ c ≤ 65374)) : wide c = c := by unfold wide; rw [if_neg h]
theorem m_wcap {c : Int} (h : 65313 ≤ c ∧ c ≤ 65338) : mapTo c = [c - 65216] := by
  rw [m_rest (by omega) (by omega), wide_in (by omega)]
  unfold down
  rw [if_pos (by unfold Cap; omega)]
  congr 1; omega
theorem m_wide {c : Int} (h : 65281 ≤ c ∧ c ≤ 65374) (h1 : ¬ (65313 ≤ c ∧ c ≤ 65338)) : mapTo c = [c - 65248] := by
  rw [m_rest (by omega) (by omega), wide_in h]
  unfold down
  rw [if_neg (by unfold Cap; omega), if_neg (by omega), if_neg (by omega)]
theorem m_cap {c : Int} (h : Cap c) : mapTo c = [c + 32] := by
  have h' := h
  unfold Cap at h'
  rw [m_rest (by omega) (by omega), wide_out (by omega)]
  unfold down
  rw [if_pos h]
theorem m_cyr {c : Int} (h : 1024 ≤ c ∧ c ≤ 1039) : mapTo c = [c + 80] := by
  rw [m_rest (by omega) (by omega), wide_out (by omega)]
  unfold down
  rw [if_neg (by unfold Cap; omega), if_pos h]
theorem m_ss {c : Int} (h : c = 7838) : mapTo c = [115, 115] := by subst h; decide
theorem m_self {c : Int} (h1 : ¬ (c = 173 ∨ c = 8203 ∨ c = 8288 ∨ c = 65279)) (h2 : ¬ (c = 12290 ∨ c = 65377)) (h3 : ¬ (65281 ≤ c ∧ c ≤ 65374)) (h4 : ¬ Cap c) (h5 : ¬ (1024 ≤ c ∧ c ≤ 1039)) (h6 : c ≠ 7838) : mapTo c = [c] := by
  rw [m_rest h1 h2, wide_out h3]
  unfold down
  rw [if_neg h4, if_neg h5, if_neg h6]

def MapBad (w : World) (e : Ending) (w' : World) : Prop := e = .returned (.tuple #[.slice none 0 0, .bool false]) ∧ Below w.heap.size w w'
def MapGood (l : List Int) (w : World) (e : Ending) (w' : World) : Prop := ∃ v, e = .returned (.tuple #[v, .bool true]) ∧ Made w w' v l

end Go.Proofs.YtfaieldafoeaiaaDoor

/-
  The document's made of layer 5, by their contracts.
-/
namespace Go.Proofs.YtfaieldafoeaiaaDoor
open Go.RowKit

/-- Where made's two tables lie. -/
def Tabs (w wr : World) : Prop := (∀ k p, pairs[k]? = some p → wr.cell? ⟨w.heap.size, k, none⟩ = some (.int .i32 p.2.2) ∧ wr.cell? ⟨w.heap.size + 1, k, none⟩ = some (.int .i32 p.2.1)) ∧ Below w.heap.size w wr
theorem tabs_new (w : World) : Tabs w ((w.alloc (.cells (pairs.map fun p => Value.int .i32 p.2.2).toArray 21)).alloc (.cells (pairs.map fun p => Value.int .i32 p.2.1).toArray 21)) := by
  refine ⟨fun k p hp => ⟨?_, ?_⟩, ((Below.refl _ _).alloc (Nat.le_refl _) _).alloc (by simp) _⟩
  · have h0 := cells_new w (pairs.map fun p => Value.int .i32 p.2.2) 21 k (.int .i32 p.2.2) (by rw [List.getElem?_map, hp]; rfl)
    rw [add_at, Nat.zero_add] at h0
    have hb : Below (w.alloc (.cells (pairs.map fun p => Value.int .i32 p.2.2).toArray 21)).heap.size (w.alloc (.cells (pairs.map fun p => Value.int .i32 p.2.2).toArray 21)) ((w.alloc (.cells (pairs.map fun p => Value.int .i32 p.2.2).toArray 21)).alloc (.cells (pairs.map fun p => Value.int .i32 p.2.1).toArray 21)) := (Below.refl _ _).alloc (Nat.le_refl _) _
    exact (hb.cell (p := ⟨w.heap.size, k, none⟩) (by simp)).trans h0
  · have h0 := cells_new (w.alloc (.cells (pairs.map fun p => Value.int .i32 p.2.2).toArray 21)) (pairs.map fun p => Value.int .i32 p.2.1) 21 k (.int .i32 p.2.1) (by rw [List.getElem?_map, hp]; rfl)
    rw [add_at, Nat.zero_add] at h0
    simpa using h0
theorem pairs_byte : ∀ p ∈ pairs, 0 ≤ p.1 ∧ p.1 ≤ 255 := by decide +kernel
theorem of_fin : ∀ k : Fin 27, ((({ data := #[97, 97, 97, 97, 97, 97, 99, 101, 101, 101, 101, 105, 105, 105, 105, 110, 111, 111, 111, 111, 111, 117, 117, 117, 117, 121, 121] } : ByteArray)[k.val]'k.isLt).toNat : Int) = (pairs[k.val]'k.isLt).1 := by decide +kernel
theorem madeIn_drop {k : Nat} (h : k < 27) (c m : Int) : madeIn (pairs.drop k) c m = if c = (pairs[k]'h).1 ∧ m = (pairs[k]'h).2.1 then (pairs[k]'h).2.2 else madeIn (pairs.drop (k + 1)) c m := by
  rw [List.drop_eq_getElem_cons (l := pairs) (i := k) h]
  rfl
def MadeR (c m : Int) (w : World) (e : Ending) (w' : World) : Prop := e = .returned (.int .i32 (madeOf c m)) ∧ Below w.heap.size w w'

end Go.Proofs.YtfaieldafoeaiaaDoor

/-
  The document's Compose and Fold of layer 5, by their contracts.
-/
namespace Go.Proofs.YtfaieldafoeaiaaDoor
open Go.RowKit

theorem grown_undrew5 {w w1 : World} {o : Option Nat} (h : w.drew.grownBy w1 o) : w.grownBy w1 o := ⟨h.os, h.tape, h.output, h.size, h.block⟩
theorem below_drew {w w1 : World} (h : Below w.drew.heap.size w.drew w1) : Below w.heap.size w w1 := (below_drewN (Below.refl _ w) 1).trans h
def CompPost (l : List Int) (w : World) (e : Ending) (w' : World) : Prop := ∃ v, e = .returned v ∧ Made w w' v l
theorem drop_two {l : List Int} {k : Nat} (h : k + 1 < l.length) : l.drop k = l[k] :: l[k + 1] :: l.drop (k + 2) := by
  rw [List.drop_eq_getElem_cons (by omega), List.drop_eq_getElem_cons h]

end Go.Proofs.YtfaieldafoeaiaaDoor

/-
  The document's Fold of layer 5, by its contract.
-/
namespace Go.Proofs.YtfaieldafoeaiaaDoor
open Go.RowKit

/-- 'append(s, x...)', both of them rows of runes that the call made. -/
theorem append_made {ops : Array Oper} {rest : List Oper} {o : Oper} {a : Act} {Q : Exit → Act → World → Prop} {W w0 w : World} (hgd : o.guard = none) (s x : Operand)
    (ho : o.op = .call { callee := .builtin .append, args := #[s, x], argTypes := #[22, 22] })
    (v vx : Value) (l lx : List Int) (hs : a.eval s = v) (hx : a.eval x = vx) (h1 : Made W w v l) (h2 : Made w0 w vx lx) (hl : l.length + lx.length ≤ 4000)
    (h : ∀ v' w', Made W w' v' (l ++ lx) → wpList Tryd.prog ops Q rest (a.put o.dst v') w') : wpList Tryd.prog ops Q (o :: rest) a w := by
  obtain ⟨i0, hi, hz0, hz1, hz2⟩ := info_parts Tryd.infoR
  have h2' := h2.1
  rcases h2.1.2 with ⟨rfl, h0⟩ | ⟨g, cap, cur, rfl, _⟩
  · obtain rfl := List.eq_nil_of_length_eq_zero h0
    refine wpList_append_own_none hgd s x _ ho W.heap.size 21 i0 1 Tryd.underlying22 hi v _ _ hs h1.1 hx (h v w (by rw [List.append_nil]; exact h1))
  · refine wpList_append_own w hgd s x _ ho W.heap.size 21 i0 _ 1 4 Tryd.underlying22 hi hz0 hz1 hz2 rfl (by decide) v _ _ hs h1.1 ⟨g, 0, none⟩ lx.length cap (lx.map (Value.int .i32)) hx (by simp) (fun j u hu => ?_) (fun u hu => ?_) (by simp only [maxLen]; omega) (by omega) h1.2.size (fun v' w' hown hg _ => h v' w' ⟨?_, ?_⟩)
    · rw [add_at, Nat.zero_add, h2'.cellAt (g := g) j (by have := (List.getElem?_eq_some_iff.1 hu).1; simpa using this)]
      exact hu
    · obtain ⟨c, _, rfl⟩ := List.mem_map.1 hu
      rfl
    · show w'.ownsRow W.heap.size 21 1 v' _ _
      rw [List.length_append, List.map_append]; exact hown
    · exact h1.2.grown hg h1.2.size (own_ge h1.1)

theorem mapAll_bad {l : List Int} {k : Nat} (h : k < l.length) (hb : Barred l[k]) : mapAll l = none := by
  have e : l = l.take k ++ l[k] :: l.drop (k + 1) := by rw [← List.drop_eq_getElem_cons h, List.take_append_drop]
  rw [e, mapAll_append]
  have : mapAll (l[k] :: l.drop (k + 1)) = none := by unfold mapAll; rw [if_pos hb]
  rw [this]
  cases mapAll (l.take k) <;> rfl
theorem mapAll_step {l m : List Int} {k : Nat} (h : k < l.length) (hb : ¬ Barred l[k]) (hm : mapAll (l.take k) = some m) : mapAll (l.take (k + 1)) = some (m ++ mapTo l[k]) := by
  rw [List.take_succ_eq_append_getElem h, mapAll_append, hm]
  simp [mapAll, hb]
theorem mapTo_length (c : Int) : (mapTo c).length ≤ 2 := by
  unfold mapTo down
  repeat' split
  all_goals simp
theorem comp_length : ∀ (n : Nat) (l : List Int), l.length ≤ n → (comp l).length ≤ l.length := by
  intro n
  induction n with
  | zero => intro l h; rw [List.eq_nil_of_length_eq_zero (l := l) (by omega)]; exact Nat.le_refl _
  | succ n ih =>
    intro l h
    match l, h with
    | [], _ => exact Nat.le_refl _
    | [a], _ => exact Nat.le_refl _
    | a :: b :: t, h =>
      simp only [List.length_cons] at h
      by_cases e : madeOf a b = 0
      · rw [comp_keep e]
        have := ih (b :: t) (by simp only [List.length_cons]; omega)
        simp only [List.length_cons] at this ⊢
        omega
      · rw [comp_pair e]
        have := ih t (by omega)
        simp only [List.length_cons]
        omega
theorem mapAll_length {l m : List Int} (h : mapAll l = some m) : m.length ≤ 2 * l.length := by
  induction l generalizing m with
  | nil => simp only [mapAll, Option.some.injEq] at h; subst h; simp
  | cons c l ih =>
    unfold mapAll at h
    split at h
    · cases h
    · obtain ⟨k, hk, rfl⟩ := Option.map_eq_some_iff.1 h
      have h1 := ih hk
      have h2 := mapTo_length c
      rw [List.length_append, List.length_cons]
      omega

def FoldTwo (o : Option (List Int)) (w : World) (e : Ending) (w' : World) : Prop := match o with
  | none => e = .returned (.tuple #[.slice none 0 0, .int .i64 2]) ∧ Below w.heap.size w w'
  | some l => ∃ v, e = .returned (.tuple #[v, .int .i64 0]) ∧ Made w w' v l
theorem Made.lower5 {w w1 w' : World} {v : Value} {l : List Int} (h : Made w1 w' v l) (hb : Below w.heap.size w w1) : Made w w' v l := by
  obtain ⟨⟨h1, h2⟩, h3⟩ := h
  refine ⟨⟨h1, ?_⟩, hb.trans (h3.mono hb.size)⟩
  have := hb.size
  rcases h2 with h2 | ⟨g, cap, cur, rfl, hg, hh, r⟩
  · exact .inl h2
  · exact .inr ⟨g, cap, cur, rfl, by omega, hh, r⟩

end Go.Proofs.YtfaieldafoeaiaaDoor

/-
  The document's plain, marked, decoded of layer 6, by their contracts.
-/
namespace Go.Proofs.YtfaieldafoeaiaaDoor
open Go.RowKit

theorem plain_no {l : List Int} {k : Nat} (h : k < l.length) (hb : ¬ l[k] < 128) : plainL l = false := by
  unfold plainL
  rw [List.all_eq_false]
  exact ⟨l[k], List.getElem_mem h, by simpa using hb⟩
theorem plain_yes {l : List Int} (h : ∀ c ∈ l, c < 128) : plainL l = true := by
  unfold plainL
  rw [List.all_eq_true]
  exact fun c hc => decide_eq_true (h c hc)
theorem take_all {l : List Int} {k : Nat} (h : k < l.length) {p : Int → Prop} (h1 : ∀ c ∈ l.take k, p c) (h2 : p l[k]) : ∀ c ∈ l.take (k + 1), p c := by
  intro c hc
  rw [List.take_succ_eq_append_getElem h] at hc
  rcases List.mem_append.1 hc with hc | hc
  · exact h1 c hc
  · rw [List.mem_singleton] at hc; subst hc; exact h2

theorem tellK_log6 (bias : Nat) : ∀ (n q k : Nat), q < 10 ^ n → (tellK q bias k).length ≤ n + 1 := by
  intro n
  induction n with
  | zero =>
    intro q k h
    have ht := thr_pos k bias
    rw [tellK_small (by omega)]; simp
  | succ n ih =>
    intro q k h
    have ht := thr_pos k bias
    by_cases hq : q < thr k bias
    · rw [tellK_small hq]; simp
    · rw [tellK_more hq, List.length_cons]
      have h1 : (q - thr k bias) / (36 - thr k bias) ≤ (q - thr k bias) / 10 := Nat.div_le_div_left (by omega) (by omega)
      have h2 : (q - thr k bias) / 10 < 10 ^ n := by
        rw [Nat.pow_succ] at h
        omega
      have := ih ((q - thr k bias) / (36 - thr k bias)) (k + 36) (Nat.lt_of_le_of_lt h1 h2)
      omega
theorem tells_len6 (basic : Nat) (ds : List Nat) : ∀ (bias h : Nat), (∀ d ∈ ds, d < 1000000000) → (tells basic ds bias h).length ≤ 10 * ds.length := by
  induction ds with
  | nil => intro bias h _; simp [tells]
  | cons d ds ih =>
    intro bias h hd
    have h1 := ih (adapt d (h + 1) (h == basic)) (h + 1) (fun x hx => hd x (List.mem_cons_of_mem _ hx))
    have h2 := tellK_log6 bias 9 d 36 (by have := hd d (List.mem_cons_self ..); simpa using this)
    show (tellK d bias 36 ++ _).length ≤ _
    rw [List.length_append, List.length_cons]
    omega
theorem deltas_small6 (ds : List Nat) : ∀ (cur : List Nat) (n i : Nat), (∀ x ∈ (runD ds cur n i).1, sc x = true) → (runD ds cur n i).1.length ≤ 250 → ∀ d ∈ ds, d < 1000000000 := by
  induction ds with
  | nil => intro cur n i _ _ d hd; cases hd
  | cons d ds ih =>
    intro cur n i hs hl x hx
    have hlen : cur.length + (d :: ds).length ≤ 250 := by rw [← runD_length (d :: ds) cur n i]; exact hl
    rw [List.length_cons] at hlen
    rcases List.mem_cons.1 hx with rfl | hx
    · have hin : n + (i + x) / (cur.length + 1) ∈ (runD (x :: ds) cur n i).1 := runD_mem ds _ _ _ _ (mem_ins.2 (.inl rfl))
      have hsc := hs _ hin
      have hle : (i + x) / (cur.length + 1) ≤ 1114111 := by
        have := sc_lt hsc
        exact Nat.le_trans (Nat.le_add_left _ _) (Nat.le_of_lt_succ this)
      have hb1 : i + x < 1114112 * (cur.length + 1) := (Nat.div_lt_iff_lt_mul (by omega)).1 (by omega)
      have hb : i + x < 1114112 * 251 := Nat.lt_of_lt_of_le hb1 (Nat.mul_le_mul_left _ (by omega))
      omega
    · exact ih _ _ _ hs hl x hx
theorem penc_len6 {l : List Nat} (hs : ∀ x ∈ l, sc x = true) (hl : l.length ≤ 250) : (penc l).length ≤ 11 * l.length + 1 := by
  have hr := run_deltas hs
  have h1 := deltas_small6 (deltas l l.length 128 0 (basicOf l).length) (basicOf l) 128 0 (by rw [hr]; exact hs) (by rw [hr]; exact hl)
  have h2 := tells_len6 (basicOf l).length (deltas l l.length 128 0 (basicOf l).length) 72 (basicOf l).length h1
  have h3 := runD_length (deltas l l.length 128 0 (basicOf l).length) (basicOf l) 128 0
  rw [hr] at h3
  have h4 : (basicOf l).length ≤ l.length := List.length_filter_le _ _
  unfold penc
  rw [List.length_append, List.length_append, List.length_map]
  split <;> simp only [List.length_nil, List.length_cons] <;> omega
theorem pdec_len6 {s : List UInt8} {l : List Nat} (h : pdec s = some l) : l.length ≤ s.length := by
  have main : ∀ (f : Nat) (t : List UInt8) (cur : List Nat), (∀ x ∈ cur, x < 128) → decT f t cur 128 0 72 = some l → l.length ≤ cur.length + t.length := by
    intro f t cur hcur hd
    obtain ⟨ds, h1, h2, _⟩ := tells_decT cur.length f t cur 128 0 72 l hd (.inl ⟨rfl, rfl⟩) (fun x hx => sc_small (hcur x hx))
    have h3 := dtells_length cur.length ds 72 cur.length
    rw [← h1, List.length_map] at h3
    rw [← h2, runD_length]
    omega
  unfold pdec at h
  split at h
  · cases h
  · rename_i hany
    have hsm : ∀ b ∈ s, b.toNat < 128 := by
      intro b hb
      have := List.any_eq_false.1 (Bool.eq_false_iff.2 hany) b hb
      simp at this; omega
    split at h
    · have := main _ _ _ (fun x hx => by
        obtain ⟨y, hy, rfl⟩ := List.mem_map.1 hx
        exact hsm y (List.mem_of_mem_take hy)) h
      simp only [List.length_map, List.length_take, List.length_drop] at this
      omega
    · have := main _ _ _ (fun x hx => by cases hx) h
      simpa using this

theorem zs_ints (l : List Nat) : zs l = ints l := rfl
def OkPost (s : ByteArray) (w : World) (e : Ending) (w' : World) : Prop := e = .returned (.int .i64 (if okDec s.data.toList then 0 else 2)) ∧ Below w.heap.size w w'
end Go.Proofs.YtfaieldafoeaiaaDoor

/-
  The document's One of layer 6, by its contract.
-/
namespace Go.Proofs.YtfaieldafoeaiaaDoor
open Go.RowKit

def OnePost (o : Option (List UInt8)) (w : World) (e : Ending) (w' : World) : Prop := match o with
  | none => e = .returned (.tuple #[.string ⟨#[]⟩, .int .i64 2]) ∧ Below w.heap.size w w'
  | some x => e = .returned (.tuple #[.string ⟨x.toArray⟩, .int .i64 0]) ∧ Below w.heap.size w w'
theorem enc_append (a b : List Int) : enc (a ++ b) = enc a ++ enc b := by unfold enc; rw [List.flatMap_append]
theorem fix_all {l : List Int} (h : ∀ c ∈ l, scal c = true) : l.map fix = l := (List.map_congr_left (g := id) fun c hc => fix_scal (h c hc)).trans (List.map_id _)
theorem xn_enc : enc xnI = xnB := by decide +kernel
theorem xn_iff {l : List Int} (h : ∀ c ∈ l, scal c = true) : l.take 4 = xnI ↔ (enc l).take 4 = xnB := by
  constructor
  · intro e
    have : l = xnI ++ l.drop 4 := by rw [← e, List.take_append_drop]
    rw [this, enc_append, xn_enc]; rfl
  · intro e
    have h1 : enc l = enc xnI ++ (enc l).drop 4 := by rw [xn_enc, ← e, List.take_append_drop]
    have h2 := dec_enc0 l
    rw [h1, dec_enc, fix_all h] at h2
    rw [← h2]
    have : xnI.map fix = xnI := by decide
    rw [this]; rfl
theorem xn_rest {l : List Int} (e : l.take 4 = xnI) : (enc l).drop 4 = enc (l.drop 4) := by
  have : l = xnI ++ l.drop 4 := by rw [← e, List.take_append_drop]
  conv => lhs; rw [this, enc_append, xn_enc]
  rfl
theorem all_scal {l : List Int} (h : ∀ c ∈ l, scal c = true) : l.all scal = true := List.all_eq_true.2 h
theorem bytes_eq6 {a b : ByteArray} (h : a.data.toList = b.data.toList) : a = b := by
  obtain ⟨a⟩ := a
  obtain ⟨b⟩ := b
  simp only [Array.toList_inj] at h
  rw [h]
theorem list_data (s : ByteArray) : s.toList = s.data.toList := ByteArray.toList_eq s
theorem take_bytes (s : ByteArray) (k : Nat) : (s.extract 0 k).data.toList = s.data.toList.take k := by
  simp only [ByteArray.data_extract, Array.toList_extract, List.extract_eq_take_drop]
  simp

/-- How many orders of the tests. -/
theorem lone_xn {l : List Int} (hs : ∀ c ∈ l, scal c = true) (hx : l.take 4 = xnI) : lone l = if plainL l && okDec (enc (l.drop 4)) then some (enc l) else none := by
  unfold lone
  rw [if_pos (all_scal hs), if_pos hx]
theorem lone_plain {l : List Int} (hs : ∀ c ∈ l, scal c = true) (hx : l.take 4 ≠ xnI) (hp : plainL l = true) : lone l = some (enc l) := by
  unfold lone
  rw [if_pos (all_scal hs), if_neg hx, if_pos hp]
theorem lone_mark {l : List Int} (hs : ∀ c ∈ l, scal c = true) (hx : l.take 4 ≠ xnI) (hp : plainL l = false) (hm : markL l = true) : lone l = none := by
  unfold lone
  rw [if_pos (all_scal hs), if_neg hx, if_neg (by rw [hp]; simp), if_pos hm]
theorem lone_puny {l : List Int} (hs : ∀ c ∈ l, scal c = true) (hx : l.take 4 ≠ xnI) (hp : plainL l = false) (hm : markL l = false) : lone l = some (xnB ++ penc (l.map Int.toNat)) := by
  unfold lone
  rw [if_pos (all_scal hs), if_neg hx, if_neg (by rw [hp]; simp), if_neg (by rw [hm]; simp)]
theorem lone_bad {l : List Int} (hs : ¬ ∀ c ∈ l, scal c = true) : lone l = none := by
  unfold lone
  rw [if_neg (by rw [List.all_eq_true]; exact hs)]

end Go.Proofs.YtfaieldafoeaiaaDoor

/-
  Words for the errors of package fail: chains of wrapped errors in memory, and slices of strings.
-/
namespace Go.Proofs.YtfaieldafoeaiaaDoor
open Go.RowKit

/-- An error value that is 'cs' wrapped round an end (the outermost call first): a number, or nothing. -/
def Chain (w : World) : List ByteArray → Option Int → Value → Prop
  | [], some n, v => v = .iface 30 (.int .i64 n)
  | [], none, v => v = .nilIface
  | c :: cs, o, v => ∃ b v', v = .iface 101 (.pointer (some ⟨b, 0, none⟩)) ∧ b < w.heap.size ∧
      w.cell? ⟨b, 0, none⟩ = some (.string c) ∧ w.cell? ⟨b, 1, none⟩ = some v' ∧ Chain w cs o v'

theorem Chain.below {w w' : World} (hb : Below w.heap.size w w') : ∀ {cs : List ByteArray} {o : Option Int} {v : Value}, Chain w cs o v → Chain w' cs o v
  | [], some _, _, h => h
  | [], none, _, h => h
  | _ :: _, _, _, ⟨b, v', e, hl, h0, h1, h2⟩ =>
    ⟨b, v', e, Nat.lt_of_lt_of_le hl hb.size, (hb.cell (p := ⟨b, 0, none⟩) hl).trans h0, (hb.cell (p := ⟨b, 1, none⟩) hl).trans h1, Chain.below hb h2⟩

/-- A slice of strings that reads as a list; nil let in. -/
def Strs (w : World) (A : Option Addr) (ss : List ByteArray) : Prop :=
  ∀ i s, ss[i]? = some s → ∃ b off, A = some ⟨b, off, none⟩ ∧ b < w.heap.size ∧ w.cell? ⟨b, off + i, none⟩ = some (.string s)

theorem Strs.below {w w' : World} {A : Option Addr} {ss : List ByteArray} (h : Strs w A ss) (hb : Below w.heap.size w w') : Strs w' A ss := by
  intro i s hs
  obtain ⟨b, off, e, hl, hc⟩ := h i s hs
  exact ⟨b, off, e, Nat.lt_of_lt_of_le hl hb.size, (hb.cell (p := ⟨b, off + i, none⟩) hl).trans hc⟩

theorem bytes_same {a b : ByteArray} (h : a = b) : (a.toList == b.toList) = true := by rw [h]; simp
theorem bytes_other {a b : ByteArray} (h : a ≠ b) : (a.toList == b.toList) = false := by
  rw [beq_eq_false_iff_ne, ByteArray.toList_eq, ByteArray.toList_eq]
  exact fun e => h (WideShapes.bytes_inj e)

/-- 20 texts of 60 bytes at most. -/
def few (ss : List ByteArray) : Bool := decide (ss.length ≤ 20) && (ss.take 21).all fun s => decide (s.size ≤ 60)

theorem few_false_long {ss : List ByteArray} (h : ¬ ss.length ≤ 20) : few ss = false := by simp [few]; omega
theorem few_false_at {ss : List ByteArray} {k : Nat} (hk : k < ss.length) (h21 : k < 21) (h : 60 < ss[k].size) : few ss = false := by
  simp only [few, Bool.and_eq_false_iff]
  right
  rw [List.all_eq_false]
  refine ⟨ss[k], ?_, by simp; omega⟩
  rw [List.mem_iff_getElem]
  exact ⟨k, by simp; omega, by simp⟩
theorem few_true {ss : List ByteArray} (hl : ss.length ≤ 20) (h : ∀ j, (hj : j < ss.length) → ss[j].size ≤ 60) : few ss = true := by
  simp only [few, Bool.and_eq_true, decide_eq_true_eq, List.all_eq_true]
  refine ⟨hl, fun s hs => ?_⟩
  obtain ⟨j, hj, rfl⟩ := List.mem_iff_getElem.1 (List.mem_of_mem_take hs)
  exact h j hj
theorem few_len {ss : List ByteArray} (h : few ss = true) : ss.length ≤ 20 := by
  simp only [few, Bool.and_eq_true, decide_eq_true_eq] at h; exact h.1
theorem few_size {ss : List ByteArray} (h : few ss = true) : ∀ s ∈ ss, s.size ≤ 60 := by
  have hl := few_len h
  simp only [few, Bool.and_eq_true, decide_eq_true_eq, List.all_eq_true] at h
  intro s hs
  exact h.2 s (by rw [List.take_of_length_le (by omega)]; exact hs)

end Go.Proofs.YtfaieldafoeaiaaDoor

/-
  The small functions of package fail and of the document's answers, by their contracts.
-/
namespace Go.Proofs.YtfaieldafoeaiaaDoor
open Go.RowKit

set_option maxHeartbeats 400000 in
theorem wrap_nil (s : ByteArray) (w : World) :
    Calls Tryd.prog 34 #[.string s, .nilIface] w fun e w' => e = .returned .nilIface ∧ w = w' := by
  go_enter Tryd.func34, Tryd.ntmps34
  go_wp2
  go_ret
  exact ⟨rfl, rfl⟩

set_option maxHeartbeats 400000 in
theorem wrap_held (s : ByteArray) (u : TypeId) (x : Value) (w : World) :
    Calls Tryd.prog 34 #[.string s, .iface u x] w fun e w' => e = .returned (.iface 101 (.pointer (some ⟨w.heap.size, 0, none⟩))) ∧ w.alloc (.cells #[.string s, .iface u x] 103) = w' := by
  go_enter Tryd.func34, Tryd.ntmps34
  go_wp2
  go_ret
  exact ⟨rfl, rfl⟩

set_option maxHeartbeats 400000 in
theorem unwrap_nil (w : World) :
    Calls Tryd.prog 119 #[.pointer none] w fun e w' => e = .returned .nilIface ∧ w = w' := by
  go_enter Tryd.func119, Tryd.ntmps119
  go_wp2
  go_ret
  exact ⟨rfl, rfl⟩

set_option maxHeartbeats 400000 in
theorem unwrap_at (b : Nat) (v : Value) (w : World) (h : w.cell? ⟨b, 1, none⟩ = some v) :
    Calls Tryd.prog 119 #[.pointer (some ⟨b, 0, none⟩)] w fun e w' => e = .returned v ∧ w = w' := by
  go_enter Tryd.func119, Tryd.ntmps119
  go_wp2
  go_ret
  exact ⟨rfl, rfl⟩

theorem Chain.held {w : World} {cs : List ByteArray} {n : Int} {v : Value} (h : Chain w cs (some n) v) : ∃ u x, v = .iface u x := by
  cases cs with
  | nil => exact ⟨_, _, h⟩
  | cons c cs => obtain ⟨b, v', e, _⟩ := h; exact ⟨_, _, e⟩

theorem Chain.lay {w : World} {cs : List ByteArray} {o : Option Int} {v : Value} (s : ByteArray) (h : Chain w cs o v) :
    Chain (w.alloc (.cells #[.string s, v] 103)) (s :: cs) o (.iface 101 (.pointer (some ⟨w.heap.size, 0, none⟩))) :=
  ⟨w.heap.size, v, rfl, by simp, by simp, by simp, h.below ((Below.refl _ _).alloc (Nat.le_refl _) _)⟩

def AllPost (w : World) (ss : List ByteArray) (n : Int) (e : Ending) (w' : World) : Prop :=
  ∃ u x, e = .returned (.iface u x) ∧ Chain w' ss.reverse (some n) (.iface u x) ∧ Below w.heap.size w w'

def AllRel (w : World) (ss : List ByteArray) (n : Int) (k : Nat) (v : Value) (w' : World) : Prop :=
  ∃ u x, v = .iface u x ∧ Chain w' (ss.take k).reverse (some n) (.iface u x) ∧ Below w.heap.size w w'

end Go.Proofs.YtfaieldafoeaiaaDoor

/-
  The small functions of package label, and what they call of the library, by their contracts.
-/
namespace Go.Proofs.YtfaieldafoeaiaaDoor
open Go.RowKit

def far (c : Int) : Bool := decide (128 ≤ c)
def noS (c : Int) : Bool := !(scal c)
theorem far_any (c : Int) (w : World) :
    Calls Tryd.prog 42 #[.int .i32 c] w fun e w' => e = .returned (.bool (far c)) ∧ w = w' := by
  go_enter Tryd.func42, Tryd.ntmps42
  go_wp2
  go_ret
  exact ⟨rfl, rfl⟩
theorem validRune_any (c : Int) (w : World) :
    Calls Tryd.prog 44 #[.int .i32 c] w fun e w' => e = .returned (.bool (scal c)) ∧ w = w' := by
  go_enter Tryd.func44, Tryd.ntmps44
  go_wp2
  all_goals
    go_ret
    refine ⟨ret_bool ?_, rfl⟩
    rw [Bool.eq_iff_iff, scal_iff]
    simp
    try omega
theorem noS_any (c : Int) (w : World) :
    Calls Tryd.prog 25 #[.int .i32 c] w fun e w' => e = .returned (.bool (noS c)) ∧ w = w' := by
  have HC := validRune_any c w
  cases hs : scal c with
  | true =>
    rw [hs] at HC
    have HN : Hid (noS c = false) := by show (!(scal c)) = false; rw [hs]; rfl
    clear hs
    go_enter Tryd.func25, Tryd.ntmps25
    go_wp2_with (go_at_call 44; refine HC.mono ?_; rintro e w' ⟨rfl, rfl⟩)
    go_ret
    exact ⟨by rw [HN.out]; rfl, rfl⟩
  | false =>
    rw [hs] at HC
    have HN : Hid (noS c = true) := by show (!(scal c)) = true; rw [hs]; rfl
    clear hs
    go_enter Tryd.func25, Tryd.ntmps25
    go_wp2_with (go_at_call 44; refine HC.mono ?_; rintro e w' ⟨rfl, rfl⟩)
    go_ret
    exact ⟨by rw [HN.out]; rfl, rfl⟩

set_option maxHeartbeats 400000 in
theorem markFirst_any (A : Option Addr) (l : List Int) (cap : Nat) (w : World) (h : Runes w A l) (hl : l.length ≤ 100000) :
    Calls Tryd.prog 26 #[.slice A l.length cap] w fun e w' => e = .returned (.bool (markL l)) ∧ w = w' := by
  cases l with
  | nil =>
    clear h
    go_enter Tryd.func26, Tryd.ntmps26
    go_wp2
    go_ret
    exact ⟨rfl, rfl⟩
  | cons c l =>
    obtain ⟨b, off, rfl, _, hc⟩ := h 0 c rfl
    clear h
    rw [Nat.add_zero] at hc
    rw [List.length_cons] at hl ⊢
    have HM : Hid (markL (c :: l) = (decide (768 ≤ c) && decide (c ≤ 879))) := rfl
    by_cases h1 : 768 ≤ c <;> by_cases h2 : c ≤ 879
    all_goals
      go_enter Tryd.func26, Tryd.ntmps26
      go_wp2
      all_goals
        go_ret
        refine ⟨ret_bool ?_, rfl⟩
        rw [HM.out]
        simp [h1, h2]

theorem wrap6_any (cs : List ByteArray) (n : Int) (u : TypeId) (x : Value) (w : World) (hch : Chain w cs (some n) (.iface u x)) :
    Calls Tryd.prog 12 #[.iface u x] w fun e w' => ∃ cs u' x', e = .returned (.iface u' x') ∧ Chain w' cs (some n) (.iface u' x') ∧ Below w.heap.size w w' := by
  have HC := Lib.hid hch
  clear hch
  go_enter Tryd.func12, Tryd.ntmps12
  go_wp2_with (go_at_call 34; refine (wrap_held _ _ _ _).mono ?_; rintro e w' ⟨rfl, rfl⟩)
  go_ret
  exact ⟨_, _, _, rfl, HC.out.lay _, (Below.refl _ _).alloc (Nat.le_refl _) _⟩

/-! strings.CutPrefix at the prefix of Punycode. -/
set_option maxHeartbeats 400000 in
theorem hasX_yes (s : ByteArray) (w : World) (hl : s.size ≤ 100000) (h : s.data.toList.take 4 = xnB) :
    Calls Tryd.prog 63 #[.string s, .string ⟨#[120, 110, 45, 45]⟩] w fun e w' => e = .returned (.bool true) ∧ w = w' := by
  have h4 : 4 ≤ s.size := by
    have e := congrArg List.length h
    simp [xnB] at e
    omega
  have he4 : s.extract 0 4 = ⟨#[120, 110, 45, 45]⟩ := bytes_eq6 (by rw [take_bytes, h]; rfl)
  clear h
  go_enter Tryd.func63, Tryd.ntmps63
  go_wp2
  go_ret
  exact ⟨rfl, rfl⟩
set_option maxHeartbeats 400000 in
theorem hasX_no (s : ByteArray) (w : World) (hl : s.size ≤ 100000) (h : s.data.toList.take 4 ≠ xnB) :
    Calls Tryd.prog 63 #[.string s, .string ⟨#[120, 110, 45, 45]⟩] w fun e w' => e = .returned (.bool false) ∧ w = w' := by
  by_cases h4 : 4 ≤ s.size
  · have hne : ((s.extract 0 4).toList == [120, 110, 45, 45]) = false := by
      rw [beq_eq_false_iff_ne]
      intro e
      refine h ?_
      rw [← take_bytes, ← list_data, e]
      rfl
    clear h
    go_enter Tryd.func63, Tryd.ntmps63
    go_wp2
    go_ret
    exact ⟨rfl, rfl⟩
  · clear h
    go_enter Tryd.func63, Tryd.ntmps63
    go_wp2
    go_ret
    exact ⟨rfl, rfl⟩
set_option maxHeartbeats 400000 in
theorem cutX_yes (s : ByteArray) (w : World) (hl : s.size ≤ 100000) (h : s.data.toList.take 4 = xnB) :
    Calls Tryd.prog 22 #[.string s, .string ⟨#[120, 110, 45, 45]⟩] w fun e w' => e = .returned (.tuple #[.string (s.extract 4 s.size), .bool true]) ∧ w = w' := by
  have HC := Lib.hid (hasX_yes s w hl h)
  have h4 : 4 ≤ s.size := by
    have e := congrArg List.length h
    simp [xnB] at e
    omega
  clear h
  have HD : Hid (Calls Tryd.prog 41 #[.string s, .string ⟨#[120, 110, 45, 45]⟩] w fun e w' => e = .returned (.tuple #[.string (s.extract 4 s.size), .bool true]) ∧ w = w') := by
    show Calls _ _ _ _ _
    go_enter Tryd.func41, Tryd.ntmps41
    go_wp2_with (go_at_call 63; refine HC.out.mono ?_; rintro e w' ⟨rfl, rfl⟩)
    go_ret2
    exact ⟨rfl, rfl⟩
  go_enter Tryd.func22, Tryd.ntmps22
  go_wp2_with (go_at_call 41; refine HD.out.mono ?_; rintro e w' ⟨rfl, rfl⟩)
  go_ret2
  exact ⟨rfl, rfl⟩
set_option maxHeartbeats 400000 in
theorem cutX_no (s : ByteArray) (w : World) (hl : s.size ≤ 100000) (h : s.data.toList.take 4 ≠ xnB) :
    Calls Tryd.prog 22 #[.string s, .string ⟨#[120, 110, 45, 45]⟩] w fun e w' => e = .returned (.tuple #[.string s, .bool false]) ∧ w = w' := by
  have HC := Lib.hid (hasX_no s w hl h)
  clear h
  have HD : Hid (Calls Tryd.prog 41 #[.string s, .string ⟨#[120, 110, 45, 45]⟩] w fun e w' => e = .returned (.tuple #[.string s, .bool false]) ∧ w = w') := by
    show Calls _ _ _ _ _
    go_enter Tryd.func41, Tryd.ntmps41
    go_wp2_with (go_at_call 63; refine HC.out.mono ?_; rintro e w' ⟨rfl, rfl⟩)
    go_ret2
    exact ⟨rfl, rfl⟩
  go_enter Tryd.func22, Tryd.ntmps22
  go_wp2_with (go_at_call 41; refine HD.out.mono ?_; rintro e w' ⟨rfl, rfl⟩)
  go_ret2
  exact ⟨rfl, rfl⟩

set_option maxHeartbeats 400000 in
theorem equal_any (A B : Option Addr) (a b : List Int) (c d : Nat) (w : World) (ha : Runes w A a) (hb : Runes w B b) (hl : a.length ≤ 5000) :
    Calls Tryd.prog 46 #[.slice A a.length c, .slice B b.length d] w fun e w' => e = .returned (.bool (same a b)) ∧ ∃ n, w' = w.drewN n := by
  by_cases hlen : a.length = b.length
  · have hne : ((a.length : Int) != (b.length : Int)) = false := by rw [bne_eq_false_iff_eq]; omega
    have HL := Lib.hid hlen
    clear hlen
    go_enter Tryd.func46, Tryd.ntmps46
    go_wp2
    go_loopw [13] (fun i wr => ∃ k : Nat, k ≤ a.length ∧ i = .int .i64 k ∧ (∃ n, wr = w.drewN n) ∧ a.take k = b.take k) (fun i _ => a.length - (intOf i).toNat)
    case atStart => exact ⟨0, Nat.zero_le _, rfl, ⟨0, rfl⟩, rfl⟩
    case round =>
      obtain ⟨k, hk, rfl, ⟨n, rfl⟩, heq⟩ := hrel
      have HE := Lib.hid heq
      clear heq
      by_cases hlt : k < a.length
      · have hlt' : k < b.length := by have := HL.out; omega
        obtain ⟨ba, offa, rfl, _, hca⟩ := ha k a[k] (List.getElem?_eq_getElem hlt)
        obtain ⟨bb, offb, rfl, _, hcb⟩ := hb k b[k] (List.getElem?_eq_getElem hlt')
        clear ha hb
        by_cases hab : a[k] = b[k]
        · have ht : (a[k] != b[k]) = false := by rw [bne_eq_false_iff_eq]; exact hab
          have HF : Hid (a.take (k + 1) = b.take (k + 1)) := by
            show a.take (k + 1) = b.take (k + 1)
            rw [List.take_succ_eq_append_getElem hlt, List.take_succ_eq_append_getElem hlt', hab, HE.out]
          clear hab
          go_wp2_with fail
          go_quiet (fail)
          go_wp2
          go_roundw
          case rel => exact ⟨k + 1, by omega, by go_num, ⟨_, rfl⟩, HF.out⟩
          case measure => simp [intOf]; omega
        · have ht : (a[k] != b[k]) = true := by rw [bne_iff_ne]; exact hab
          have HF := Lib.hid (ne_of_at hlt hlt' hab)
          clear hab
          go_wp2_with fail
          go_quiet (fail)
          go_wp2
          go_ret
          exact ⟨by rw [HF.out]; rfl, _, World.drewN_drewN _ _ _⟩
      · have e : k = a.length := by omega
        have HF : Hid (same a b = true) := by
          show same a b = true
          simp only [same, decide_eq_true_eq]
          have h1 := HE.out
          rw [List.take_of_length_le (by omega), List.take_of_length_le (by have := HL.out; omega)] at h1
          exact h1
        clear e ha hb
        go_wp2
        go_ret
        exact ⟨by rw [HF.out]; rfl, _, rfl⟩
  · have hne : ((a.length : Int) != (b.length : Int)) = true := by rw [bne_iff_ne]; omega
    have HF := Lib.hid (ne_of_len hlen)
    clear hlen ha hb
    go_enter Tryd.func46, Tryd.ntmps46
    go_wp2
    go_ret
    exact ⟨by rw [HF.out]; rfl, 0, rfl⟩

/-- The place of the first dot; -1. -/
def dotAt (l : List Int) : Int := if l.findIdx (fun c => c == 46) < l.length then ((l.findIdx (fun c => c == 46) : Nat) : Int) else -1
theorem dotAt_here {l : List Int} {k : Nat} (h : k < l.length) (hb : l[k] = 46) (hp : ∀ c ∈ l.take k, c ≠ 46) : dotAt l = k := by
  have : l.findIdx (fun c => c == 46) = k := by
    rw [List.findIdx_eq h]
    refine ⟨by simp [hb], fun j hj => ?_⟩
    have := hp l[j] (by rw [List.mem_take_iff_getElem]; exact ⟨j, by omega, rfl⟩)
    simpa using this
  unfold dotAt
  rw [this, if_pos h]
theorem dotAt_none {l : List Int} (hp : ∀ c ∈ l, c ≠ 46) : dotAt l = -1 := by
  have : l.findIdx (fun c => c == 46) = l.length := by
    rw [List.findIdx_eq_length]
    intro c hc
    simpa using hp c hc
  unfold dotAt
  rw [this, if_neg (by omega)]

set_option maxHeartbeats 400000 in
theorem indexDot_any (A : Option Addr) (l : List Int) (cap : Nat) (w : World) (h : Runes w A l) (hl : l.length ≤ 100000) :
    Calls Tryd.prog 36 #[.slice A l.length cap, .int .i32 46] w fun e w' => e = .returned (.int .i64 (dotAt l)) ∧ w = w' := by
  go_enter Tryd.func36, Tryd.ntmps36
  go_wp2
  go_loopw [8] (fun i wr => ∃ k : Nat, k ≤ l.length ∧ i = .int .i64 k ∧ wr = w ∧ ∀ c ∈ l.take k, c ≠ 46) (fun i _ => l.length - (intOf i).toNat)
  case atStart => exact ⟨0, Nat.zero_le _, rfl, rfl, by simp⟩
  case round =>
    obtain ⟨k, hk, rfl, hw, hp⟩ := hrel
    have := hw.symm; subst this
    have HP := Lib.hid hp
    clear hp hw
    by_cases hlt : k < l.length
    · obtain ⟨b, off, rfl, _, hc⟩ := h k l[k] (List.getElem?_eq_getElem hlt)
      clear h
      by_cases hs : l[k] = 46
      · have HN := Lib.hid (dotAt_here hlt hs HP.out)
        rw [hs] at hc
        clear hs
        go_wp2
        go_ret
        exact ⟨by rw [HN.out]; rfl, rfl⟩
      · have HN := Lib.hid (take_snoc (p := fun c => c ≠ 46) hlt HP.out hs)
        have he : (46 == l[k]) = false := by rw [beq_eq_false_iff_ne]; exact fun e => hs e.symm
        clear hs
        go_wp2
        go_roundw
        case rel => exact ⟨k + 1, by omega, by go_num, by first | rfl | trivial, HN.out⟩
        case measure => simp [intOf]; omega
    · have HN : Hid (dotAt l = -1) := dotAt_none (by have := HP.out; rw [List.take_of_length_le (by omega)] at this; exact this)
      clear h
      go_wp2
      go_ret
      exact ⟨by rw [HN.out]; rfl, rfl⟩
end Go.Proofs.YtfaieldafoeaiaaDoor

/-
  slices.IndexFunc and ContainsFunc at the closures of package label; isASCII.
-/
namespace Go.Proofs.YtfaieldafoeaiaaDoor
open Go.RowKit

/-- The place of the first one that is so; -1. -/
def at6 (p : Int → Bool) (l : List Int) : Int := if l.findIdx p < l.length then ((l.findIdx p : Nat) : Int) else -1
theorem at6_here {p : Int → Bool} {l : List Int} {k : Nat} (h : k < l.length) (hb : p l[k] = true) (hp : ∀ c ∈ l.take k, p c = false) : at6 p l = k := by
  have : l.findIdx p = k := by
    rw [List.findIdx_eq h]
    refine ⟨hb, fun j hj => ?_⟩
    exact hp l[j] (by rw [List.mem_take_iff_getElem]; exact ⟨j, by omega, rfl⟩)
  unfold at6
  rw [this, if_pos h]
theorem at6_none {p : Int → Bool} {l : List Int} (hp : ∀ c ∈ l, p c = false) : at6 p l = -1 := by
  have : l.findIdx p = l.length := by
    rw [List.findIdx_eq_length]
    exact hp
  unfold at6
  rw [this, if_neg (by omega)]
theorem any6_at (p : Int → Bool) (l : List Int) : decide (0 ≤ at6 p l) = l.any p := by
  unfold at6
  rw [Bool.eq_iff_iff, decide_eq_true_eq, List.any_eq_true]
  constructor
  · intro h
    split at h
    · rename_i hlt
      exact ⟨_, List.getElem_mem hlt, List.findIdx_getElem (w := hlt)⟩
    · omega
  · rintro ⟨x, hx, hp⟩
    rw [if_pos (List.findIdx_lt_length_of_exists ⟨x, hx, hp⟩)]
    omega

set_option maxHeartbeats 400000 in
theorem index_far (A : Option Addr) (l : List Int) (cap : Nat) (w : World) (h : Runes w A l) (hl : l.length ≤ 100000) :
    Calls Tryd.prog 43 #[.slice A l.length cap, .func (.func 42) #[] #[]] w fun e w' => e = .returned (.int .i64 (at6 far l)) ∧ w = w' := by
  go_enter Tryd.func43, Tryd.ntmps43
  go_wp2
  go_loopw [8] (fun i wr => ∃ k : Nat, k ≤ l.length ∧ i = .int .i64 k ∧ wr = w ∧ ∀ c ∈ l.take k, far c = false) (fun i _ => l.length - (intOf i).toNat)
  case atStart => exact ⟨0, Nat.zero_le _, rfl, rfl, by simp⟩
  case round =>
    obtain ⟨k, hk, rfl, hw, hp⟩ := hrel
    have := hw.symm; subst this
    have HP := Lib.hid hp
    clear hp hw
    by_cases hlt : k < l.length
    · obtain ⟨b, off, rfl, _, hc⟩ := h k l[k] (List.getElem?_eq_getElem hlt)
      clear h
      have HC := far_any l[k] w
      cases hs : far l[k] with
      | false =>
        rw [hs] at HC
        have HN := Lib.hid (take_snoc (p := fun c => far c = false) hlt HP.out hs)
        clear hs
        go_wp2_with (first | (go_at_call 42; refine HC.mono ?_; rintro e w' ⟨rfl, rfl⟩))
        go_roundw
        case rel => exact ⟨k + 1, by omega, by go_num, by first | rfl | trivial, HN.out⟩
        case measure => simp [intOf]; omega
      | true =>
        rw [hs] at HC
        have HN := Lib.hid (at6_here hlt hs HP.out)
        clear hs
        go_wp2_with (first | (go_at_call 42; refine HC.mono ?_; rintro e w' ⟨rfl, rfl⟩))
        go_ret
        exact ⟨by rw [HN.out]; rfl, rfl⟩
    · have HN : Hid (at6 far l = -1) := at6_none (by have := HP.out; rw [List.take_of_length_le (by omega)] at this; exact this)
      clear h
      go_wp2
      go_ret
      exact ⟨by rw [HN.out]; rfl, rfl⟩
theorem has_far (A : Option Addr) (l : List Int) (cap : Nat) (w : World) (h : Runes w A l) (hl : l.length ≤ 100000) :
    Calls Tryd.prog 24 #[.slice A l.length cap, .func (.func 42) #[] #[]] w fun e w' => e = .returned (.bool (l.any far)) ∧ w = w' := by
  have HC := index_far A l cap w h hl
  clear h
  have HB := Lib.hid (any6_at far l)
  go_enter Tryd.func24, Tryd.ntmps24
  go_wp2_with (first | (go_at_call 43; refine HC.mono ?_; rintro e w' ⟨rfl, rfl⟩))
  go_ret
  refine ⟨?_, rfl⟩
  rw [← HB.out]
  try simp

set_option maxHeartbeats 400000 in
theorem index_noS (A : Option Addr) (l : List Int) (cap : Nat) (w : World) (h : Runes w A l) (hl : l.length ≤ 100000) :
    Calls Tryd.prog 43 #[.slice A l.length cap, .func (.func 25) #[] #[]] w fun e w' => e = .returned (.int .i64 (at6 noS l)) ∧ w = w' := by
  go_enter Tryd.func43, Tryd.ntmps43
  go_wp2
  go_loopw [8] (fun i wr => ∃ k : Nat, k ≤ l.length ∧ i = .int .i64 k ∧ wr = w ∧ ∀ c ∈ l.take k, noS c = false) (fun i _ => l.length - (intOf i).toNat)
  case atStart => exact ⟨0, Nat.zero_le _, rfl, rfl, by simp⟩
  case round =>
    obtain ⟨k, hk, rfl, hw, hp⟩ := hrel
    have := hw.symm; subst this
    have HP := Lib.hid hp
    clear hp hw
    by_cases hlt : k < l.length
    · obtain ⟨b, off, rfl, _, hc⟩ := h k l[k] (List.getElem?_eq_getElem hlt)
      clear h
      have HC := noS_any l[k] w
      cases hs : noS l[k] with
      | false =>
        rw [hs] at HC
        have HN := Lib.hid (take_snoc (p := fun c => noS c = false) hlt HP.out hs)
        clear hs
        go_wp2_with (first | (go_at_call 25; refine HC.mono ?_; rintro e w' ⟨rfl, rfl⟩))
        go_roundw
        case rel => exact ⟨k + 1, by omega, by go_num, by first | rfl | trivial, HN.out⟩
        case measure => simp [intOf]; omega
      | true =>
        rw [hs] at HC
        have HN := Lib.hid (at6_here hlt hs HP.out)
        clear hs
        go_wp2_with (first | (go_at_call 25; refine HC.mono ?_; rintro e w' ⟨rfl, rfl⟩))
        go_ret
        exact ⟨by rw [HN.out]; rfl, rfl⟩
    · have HN : Hid (at6 noS l = -1) := at6_none (by have := HP.out; rw [List.take_of_length_le (by omega)] at this; exact this)
      clear h
      go_wp2
      go_ret
      exact ⟨by rw [HN.out]; rfl, rfl⟩
theorem has_noS (A : Option Addr) (l : List Int) (cap : Nat) (w : World) (h : Runes w A l) (hl : l.length ≤ 100000) :
    Calls Tryd.prog 24 #[.slice A l.length cap, .func (.func 25) #[] #[]] w fun e w' => e = .returned (.bool (l.any noS)) ∧ w = w' := by
  have HC := index_noS A l cap w h hl
  clear h
  have HB := Lib.hid (any6_at noS l)
  go_enter Tryd.func24, Tryd.ntmps24
  go_wp2_with (first | (go_at_call 43; refine HC.mono ?_; rintro e w' ⟨rfl, rfl⟩))
  go_ret
  refine ⟨?_, rfl⟩
  rw [← HB.out]
  try simp

theorem any_far (l : List Int) : (!(l.any far)) = plainL l := by
  unfold plainL
  rw [List.not_any_eq_all_not]
  congr 1
  funext c
  simp only [far]
  rw [Bool.eq_iff_iff]
  simp
theorem ascii_any (A : Option Addr) (l : List Int) (cap : Nat) (w : World) (h : Runes w A l) (hl : l.length ≤ 100000) :
    Calls Tryd.prog 23 #[.slice A l.length cap] w fun e w' => e = .returned (.bool (plainL l)) ∧ w = w' := by
  have HC := has_far A l cap w h hl
  clear h
  have HB := Lib.hid (any_far l)
  go_enter Tryd.func23, Tryd.ntmps23
  go_wp2_with (first | (go_at_call 24; refine HC.mono ?_; rintro e w' ⟨rfl, rfl⟩))
  go_ret
  refine ⟨?_, rfl⟩
  rw [← HB.out]
  rfl
end Go.Proofs.YtfaieldafoeaiaaDoor

/-
  spanOf: the span that holds a code point.
-/
namespace Go.Proofs.YtfaieldafoeaiaaDoor
open Go.RowKit

def SpanRow (r : Int × Int × Int × Int) : Value := .agg #[.int .i32 r.1, .int .i32 r.2.1, .int .i64 r.2.2.1, .int .i32 r.2.2.2]
def SpanPost (c : Int) (w : World) (e : Ending) (w' : World) : Prop :=
  ((∃ i, Holds c i ∧ e = .returned (SpanRow (spanAt i))) ∨ (Free c ∧ e = .returned (SpanRow (0, 0, 0, 0)))) ∧ Below w.heap.size w w'

theorem spot_at {w : World} {b : Nat} {cs : Array Value} {t : TypeId} (h : w.heap[b]? = some (.cells cs t (0, 0))) (j : Nat) {x : Value} (hx : cs[j]? = some x) : w.cell? ⟨b, j, none⟩ = some x ∧ w.frozen? ⟨b, j, none⟩ = false := by
  constructor
  · simp [World.cell?, h, hx]
  · simp [World.frozen?, h]
theorem spot_facts {w v : World} {b : Nat} {o : Obj} {cs : Array Value} {t : TypeId} (h : w.heap[b]? = some (.cells cs t (0, 0))) (hv : v = w.alloc o) (j : Nat) {x : Value} (hx : cs[j]? = some x) : v.cell? ⟨b, j, none⟩ = some x ∧ v.frozen? ⟨b, j, none⟩ = false := by
  have hl := (Array.getElem?_eq_some_iff.1 h).1
  have h2 : v.heap[b]? = some (.cells cs t (0, 0)) := by rw [hv, Below.heap_alloc _ _ _ hl]; exact h
  constructor
  · simp [World.cell?, h2, hx]
  · simp [World.frozen?, h2]

set_option maxHeartbeats 1000000 in
set_option maxRecDepth 100000 in
theorem spanOf_any (c : Int) (w : World) (hv : Vars w) : Calls Tryd.prog 57 #[.int .i32 c] w (SpanPost c w) := by
  have HV := Lib.hid hv
  clear hv
  go_enter Tryd.func57, Tryd.ntmps57
  go_wp2
  go_step3
  go_wp2
  go_step3
  go_wp2
  obtain ⟨W2, hW2⟩ : ∃ W2, (w.alloc (.cells #[.int .i32 0, .int .i32 0, .int .i64 0, .int .i32 0] 99)).alloc (.cells #[.int .i32 0, .int .i32 0, .int .i64 0, .int .i32 0] 99) = W2 := ⟨_, rfl⟩
  have hsz : W2.heap.size = w.heap.size + 2 := by rw [← hW2]; simp
  have hB2 : Below w.heap.size w W2 := by rw [← hW2]; exact ((Below.refl _ _).alloc (Nat.le_refl _) _).alloc (by simp) _
  have hk1 : W2.heap[w.heap.size]? = some (.cells #[.int .i32 0, .int .i32 0, .int .i64 0, .int .i32 0] 99 (0, 0)) := by
    rw [← hW2, Below.heap_alloc _ _ _ (by simp)]; exact heap_alloc_new w _
  have hk2 : W2.heap[w.heap.size + 1]? = some (.cells #[.int .i32 0, .int .i32 0, .int .i64 0, .int .i32 0] 99 (0, 0)) := by
    rw [← hW2]; have := heap_alloc_new (w.alloc (.cells #[.int .i32 0, .int .i32 0, .int .i64 0, .int .i32 0] 99)) (.cells #[.int .i32 0, .int .i32 0, .int .i64 0, .int .i32 0] 99); simpa using this
  rw [hW2]
  have H2 := Lib.hid (And.intro hsz (And.intro hB2 (And.intro hk1 hk2)))
  clear hW2 hsz hB2 hk1 hk2
  go_loopw [4, 5] (fun v4 v5 wr => ∃ low high : Nat, low ≤ high ∧ high ≤ 28 ∧ v4 = .int .i64 low ∧ v5 = .int .i64 high ∧ Below W2.heap.size W2 wr ∧ (∀ i, i < low → (spanAt i).2.1 < c) ∧ (∀ i, i < 28 → high ≤ i → c < (spanAt i).1)) (fun v4 v5 _ => (intOf v5).toNat - (intOf v4).toNat)
  case atStart => exact ⟨0, 28, by omega, by omega, rfl, rfl, Below.refl _ _, fun i hi => by omega, fun i hi h => by omega⟩
  case round =>
    obtain ⟨low, high, hlh, hh, rfl, rfl, hb, hlo, hhi⟩ := hrel
    obtain ⟨hsz, hB2, hk1, hk2⟩ := H2.out
    have hbw := hB2.trans (hb.mono hB2.size)
    have hvr := HV.out.below hbw
    have hr1 := (hb.block w.heap.size (by omega)).trans hk1
    have hr2 := (hb.block (w.heap.size + 1) (by omega)).trans hk2
    have hge : w.heap.size + 2 ≤ wr.heap.size := by have := hb.size; omega
    have HH := Lib.hid (And.intro hb (And.intro hbw (And.intro hlo hhi)))
    clear hb hbw hlo hhi hB2 hk1 hk2 hsz
    by_cases hlt : low < high
    · obtain ⟨m, hm⟩ : ∃ m, (low + high) / 2 = m := ⟨_, rfl⟩
      have hm0 : low ≤ m := by omega
      have hm1 : m < high := by omega
      have hmi : ((low : Int) + (high : Int)) / 2 = (m : Int) := by omega
      obtain ⟨c0, c1, c2, c3⟩ := hvr.spans m (by omega)
      clear hvr hm
      by_cases h1 : c < (spanAt m).1
      · go_wp2
        all_goals
          obtain ⟨hb, _, hlo, _⟩ := HH.out
          refine ⟨⟨low, m, by omega, by omega, rfl, by rw [hmi], hb.alloc hb.size _, hlo, high_of h1⟩, ?_⟩
          simp [intOf]; omega
      · by_cases h2 : (spanAt m).2.1 < c
        · have h1' : (spanAt m).1 ≤ c := by omega
          go_wp2
          all_goals
            obtain ⟨hb, _, _, hhi⟩ := HH.out
            refine ⟨⟨m + 1, high, by omega, by omega, by go_num, rfl, hb.alloc hb.size _, low_of (by omega) h2, hhi⟩, ?_⟩
            simp [intOf]; omega
        · have h1' : (spanAt m).1 ≤ c := by omega
          have h2' : c ≤ (spanAt m).2.1 := by omega
          obtain ⟨a, ha⟩ : ∃ a, (spanAt m).1 = a := ⟨_, rfl⟩
          obtain ⟨b, hb⟩ : ∃ a, (spanAt m).2.1 = a := ⟨_, rfl⟩
          obtain ⟨k, hk⟩ : ∃ a, (spanAt m).2.2.1 = a := ⟨_, rfl⟩
          obtain ⟨d, hd⟩ : ∃ a, (spanAt m).2.2.2 = a := ⟨_, rfl⟩
          rw [ha] at c0 h1'
          rw [hb] at c1 h2'
          rw [hk] at c2
          rw [hd] at c3
          have HQ : Hid (Holds c m ∧ spanAt m = (a, b, k, d)) := by
            refine ⟨⟨by omega, by omega, by omega⟩, ?_⟩
            rw [← ha, ← hb, ← hk, ← hd]
          obtain ⟨e0, e1⟩ := spot_facts hr2 (o := .cells #[.int .i32 a, .int .i32 b, .int .i64 k, .int .i32 d] 99) rfl 0 rfl
          obtain ⟨e2, e3⟩ := spot_facts hr2 (o := .cells #[.int .i32 a, .int .i32 b, .int .i64 k, .int .i32 d] 99) rfl 1 rfl
          obtain ⟨e4, e5⟩ := spot_facts hr2 (o := .cells #[.int .i32 a, .int .i32 b, .int .i64 k, .int .i32 d] 99) rfl 2 rfl
          obtain ⟨e6, e7⟩ := spot_facts hr2 (o := .cells #[.int .i32 a, .int .i32 b, .int .i64 k, .int .i32 d] 99) rfl 3 rfl
          obtain ⟨g0, g1⟩ := spot_facts hr1 (o := .cells #[.int .i32 a, .int .i32 b, .int .i64 k, .int .i32 d] 99) rfl 0 rfl
          obtain ⟨g2, g3⟩ := spot_facts hr1 (o := .cells #[.int .i32 a, .int .i32 b, .int .i64 k, .int .i32 d] 99) rfl 1 rfl
          obtain ⟨g4, g5⟩ := spot_facts hr1 (o := .cells #[.int .i32 a, .int .i32 b, .int .i64 k, .int .i32 d] 99) rfl 2 rfl
          obtain ⟨g6, g7⟩ := spot_facts hr1 (o := .cells #[.int .i32 a, .int .i32 b, .int .i64 k, .int .i32 d] 99) rfl 3 rfl
          clear ha hb hk hd h1 h2 hr1 hr2
          go_wp2
          rw [Exit.noGoto_ret]
          refine bodyPost_ret (v := .agg #[.int .i32 a, .int .i32 b, .int .i64 k, .int .i32 d]) ?_ rfl ?_
          · skip
            simp [results, Tryd.results57, go_sem, g0, g2, g4, g6]
          · obtain ⟨hh1, hh2⟩ := HQ.out
            obtain ⟨_, hbw, _, _⟩ := HH.out
            refine ⟨.inl ⟨m, hh1, by rw [hh2]; rfl⟩, ?_⟩
            exact ((((((((hbw.alloc hbw.size _).setCell (by simp) _).setCell (by simp) _).setCell (by simp) _).setCell (by simp) _).setCell (by simp) _).setCell (by simp) _).setCell (by simp) _).setCell (by simp) _
    · obtain ⟨e0, e1⟩ := spot_at hr2 0 rfl
      obtain ⟨e2, e3⟩ := spot_at hr2 1 rfl
      obtain ⟨e4, e5⟩ := spot_at hr2 2 rfl
      obtain ⟨e6, e7⟩ := spot_at hr2 3 rfl
      obtain ⟨g0, g1⟩ := spot_at hr1 0 rfl
      obtain ⟨g2, g3⟩ := spot_at hr1 1 rfl
      obtain ⟨g4, g5⟩ := spot_at hr1 2 rfl
      obtain ⟨g6, g7⟩ := spot_at hr1 3 rfl
      clear hvr hr1 hr2
      go_wp2
      rw [Exit.noGoto_ret]
      refine bodyPost_ret (v := .agg #[.int .i32 0, .int .i32 0, .int .i64 0, .int .i32 0]) ?_ rfl ?_
      · skip
        simp [results, Tryd.results57, go_sem, g0, g2, g4, g6]
      · obtain ⟨_, hbw, hlo, hhi⟩ := HH.out
        refine ⟨.inr ⟨free_of hlo (fun i hi hm => hhi i hi (by omega)), rfl⟩, ?_⟩
        exact (((hbw.setCell (by simp) _).setCell (by simp) _).setCell (by simp) _).setCell (by simp) _
end Go.Proofs.YtfaieldafoeaiaaDoor

/-
  Why the program's tables tell what the document does; why it composes as it goes.
-/
namespace Go.Proofs.YtfaieldafoeaiaaDoor

/-- What a span tells of a number that it holds. -/
def Tells (c : Int) (k d : Int) : Prop :=
  (k = 1 ∧ Barred c) ∨ (k = 2 ∧ ¬ Barred c ∧ mapTo c = []) ∨ (k = 3 ∧ ¬ Barred c ∧ mapTo c = [46]) ∨ (k = 4 ∧ 65281 ≤ c ∧ c ≤ 65374) ∨ (k = 5 ∧ ¬ Barred c ∧ mapTo c = [115, 115]) ∨
    (k = 0 ∧ ¬ Barred c ∧ mapTo c = [c + d] ∧ 0 ≤ c ∧ c < 1114112 ∧ 0 ≤ d ∧ d ≤ 80)
theorem t_bar {c d : Int} (h : Barred c) : Tells c 1 d := .inl ⟨rfl, h⟩
theorem t_none {c d : Int} (hb : ¬ Barred c) (h : c = 173 ∨ c = 8203 ∨ c = 8288 ∨ c = 65279) : Tells c 2 d := .inr (.inl ⟨rfl, hb, m_none h⟩)
theorem t_dot {c d : Int} (hb : ¬ Barred c) (h : c = 12290 ∨ c = 65377) : Tells c 3 d := .inr (.inr (.inl ⟨rfl, hb, m_dot h⟩))
theorem t_wide {c d : Int} (h1 : 65281 ≤ c) (h2 : c ≤ 65374) : Tells c 4 d := .inr (.inr (.inr (.inl ⟨rfl, h1, h2⟩)))
theorem t_ss {c d : Int} (hb : ¬ Barred c) (h : c = 7838) : Tells c 5 d := .inr (.inr (.inr (.inr (.inl ⟨rfl, hb, m_ss h⟩))))
theorem t_cap {c : Int} (hb : ¬ Barred c) (h : Cap c) : Tells c 0 32 := .inr (.inr (.inr (.inr (.inr ⟨rfl, hb, m_cap h, by unfold Barred at hb; omega, by unfold Barred at hb; omega, by omega, by omega⟩))))
theorem t_cyr {c : Int} (hb : ¬ Barred c) (h : 1024 ≤ c ∧ c ≤ 1039) : Tells c 0 80 := .inr (.inr (.inr (.inr (.inr ⟨rfl, hb, m_cyr h, by omega, by omega, by omega, by omega⟩))))
theorem span_tells {c : Int} {i : Nat} (h : Holds c i) : Tells c (spanAt i).2.2.1 (spanAt i).2.2.2 := by
  obtain ⟨hi, h1, h2⟩ := h
  match i, hi, h1, h2 with
  | 0, _, h1, h2 =>
    have h1 : (-2147483648 : Int) ≤ c := h1
    have h2 : c ≤ -1 := h2
    exact t_bar (by unfold Barred; omega)
  | 1, _, h1, h2 =>
    have h1 : (65 : Int) ≤ c := h1
    have h2 : c ≤ 90 := h2
    exact t_cap (by unfold Barred; omega) (by unfold Cap; omega)
  | 2, _, h1, h2 =>
    have h1 : (128 : Int) ≤ c := h1
    have h2 : c ≤ 160 := h2
    exact t_bar (by unfold Barred; omega)
  | 3, _, h1, h2 =>
    have h1 : (173 : Int) ≤ c := h1
    have h2 : c ≤ 173 := h2
    exact t_none (by unfold Barred; omega) (by omega)
  | 4, _, h1, h2 =>
    have h1 : (192 : Int) ≤ c := h1
    have h2 : c ≤ 214 := h2
    exact t_cap (by unfold Barred; omega) (by unfold Cap; omega)
  | 5, _, h1, h2 =>
    have h1 : (216 : Int) ≤ c := h1
    have h2 : c ≤ 222 := h2
    exact t_cap (by unfold Barred; omega) (by unfold Cap; omega)
  | 6, _, h1, h2 =>
    have h1 : (913 : Int) ≤ c := h1
    have h2 : c ≤ 929 := h2
    exact t_cap (by unfold Barred; omega) (by unfold Cap; omega)
  | 7, _, h1, h2 =>
    have h1 : (931 : Int) ≤ c := h1
    have h2 : c ≤ 937 := h2
    exact t_cap (by unfold Barred; omega) (by unfold Cap; omega)
  | 8, _, h1, h2 =>
    have h1 : (1024 : Int) ≤ c := h1
    have h2 : c ≤ 1039 := h2
    exact t_cyr (by unfold Barred; omega) (by omega)
  | 9, _, h1, h2 =>
    have h1 : (1040 : Int) ≤ c := h1
    have h2 : c ≤ 1071 := h2
    exact t_cap (by unfold Barred; omega) (by unfold Cap; omega)
  | 10, _, h1, h2 =>
    have h1 : (5760 : Int) ≤ c := h1
    have h2 : c ≤ 5760 := h2
    exact t_bar (by unfold Barred; omega)
  | 11, _, h1, h2 =>
    have h1 : (7838 : Int) ≤ c := h1
    have h2 : c ≤ 7838 := h2
    exact t_ss (by unfold Barred; omega) (by omega)
  | 12, _, h1, h2 =>
    have h1 : (8192 : Int) ≤ c := h1
    have h2 : c ≤ 8202 := h2
    exact t_bar (by unfold Barred; omega)
  | 13, _, h1, h2 =>
    have h1 : (8203 : Int) ≤ c := h1
    have h2 : c ≤ 8203 := h2
    exact t_none (by unfold Barred; omega) (by omega)
  | 14, _, h1, h2 =>
    have h1 : (8206 : Int) ≤ c := h1
    have h2 : c ≤ 8207 := h2
    exact t_bar (by unfold Barred; omega)
  | 15, _, h1, h2 =>
    have h1 : (8232 : Int) ≤ c := h1
    have h2 : c ≤ 8239 := h2
    exact t_bar (by unfold Barred; omega)
  | 16, _, h1, h2 =>
    have h1 : (8287 : Int) ≤ c := h1
    have h2 : c ≤ 8287 := h2
    exact t_bar (by unfold Barred; omega)
  | 17, _, h1, h2 =>
    have h1 : (8288 : Int) ≤ c := h1
    have h2 : c ≤ 8288 := h2
    exact t_none (by unfold Barred; omega) (by omega)
  | 18, _, h1, h2 =>
    have h1 : (8294 : Int) ≤ c := h1
    have h2 : c ≤ 8297 := h2
    exact t_bar (by unfold Barred; omega)
  | 19, _, h1, h2 =>
    have h1 : (12290 : Int) ≤ c := h1
    have h2 : c ≤ 12290 := h2
    exact t_dot (by unfold Barred; omega) (by omega)
  | 20, _, h1, h2 =>
    have h1 : (55296 : Int) ≤ c := h1
    have h2 : c ≤ 57343 := h2
    exact t_bar (by unfold Barred; omega)
  | 21, _, h1, h2 =>
    have h1 : (57344 : Int) ≤ c := h1
    have h2 : c ≤ 63743 := h2
    exact t_bar (by unfold Barred; omega)
  | 22, _, h1, h2 =>
    have h1 : (64976 : Int) ≤ c := h1
    have h2 : c ≤ 65007 := h2
    exact t_bar (by unfold Barred; omega)
  | 23, _, h1, h2 =>
    have h1 : (65279 : Int) ≤ c := h1
    have h2 : c ≤ 65279 := h2
    exact t_none (by unfold Barred; omega) (by omega)
  | 24, _, h1, h2 =>
    have h1 : (65281 : Int) ≤ c := h1
    have h2 : c ≤ 65374 := h2
    exact t_wide (by omega) (by omega)
  | 25, _, h1, h2 =>
    have h1 : (65377 : Int) ≤ c := h1
    have h2 : c ≤ 65377 := h2
    exact t_dot (by unfold Barred; omega) (by omega)
  | 26, _, h1, h2 =>
    have h1 : (65529 : Int) ≤ c := h1
    have h2 : c ≤ 65535 := h2
    exact t_bar (by unfold Barred; omega)
  | 27, _, h1, h2 =>
    have h1 : (917504 : Int) ≤ c := h1
    have h2 : c ≤ 2147483647 := h2
    exact t_bar (by unfold Barred; omega)
  | i + 28, hi, _, _ => omega
theorem free_tells {c : Int} (h : Free c) (h0 : -2147483648 ≤ c) (h1 : c < 2147483648) : ¬ Barred c ∧ mapTo c = [c] ∧ 0 ≤ c ∧ c < 1114112 := by
  have f0 : c < -2147483648 ∨ -1 < c := h 0 (by omega)
  have f1 : c < 65 ∨ 90 < c := h 1 (by omega)
  have f2 : c < 128 ∨ 160 < c := h 2 (by omega)
  have f3 : c < 173 ∨ 173 < c := h 3 (by omega)
  have f4 : c < 192 ∨ 214 < c := h 4 (by omega)
  have f5 : c < 216 ∨ 222 < c := h 5 (by omega)
  have f6 : c < 913 ∨ 929 < c := h 6 (by omega)
  have f7 : c < 931 ∨ 937 < c := h 7 (by omega)
  have f8 : c < 1024 ∨ 1039 < c := h 8 (by omega)
  have f9 : c < 1040 ∨ 1071 < c := h 9 (by omega)
  have f10 : c < 5760 ∨ 5760 < c := h 10 (by omega)
  have f11 : c < 7838 ∨ 7838 < c := h 11 (by omega)
  have f12 : c < 8192 ∨ 8202 < c := h 12 (by omega)
  have f13 : c < 8203 ∨ 8203 < c := h 13 (by omega)
  have f14 : c < 8206 ∨ 8207 < c := h 14 (by omega)
  have f15 : c < 8232 ∨ 8239 < c := h 15 (by omega)
  have f16 : c < 8287 ∨ 8287 < c := h 16 (by omega)
  have f17 : c < 8288 ∨ 8288 < c := h 17 (by omega)
  have f18 : c < 8294 ∨ 8297 < c := h 18 (by omega)
  have f19 : c < 12290 ∨ 12290 < c := h 19 (by omega)
  have f20 : c < 55296 ∨ 57343 < c := h 20 (by omega)
  have f21 : c < 57344 ∨ 63743 < c := h 21 (by omega)
  have f22 : c < 64976 ∨ 65007 < c := h 22 (by omega)
  have f23 : c < 65279 ∨ 65279 < c := h 23 (by omega)
  have f24 : c < 65281 ∨ 65374 < c := h 24 (by omega)
  have f25 : c < 65377 ∨ 65377 < c := h 25 (by omega)
  have f26 : c < 65529 ∨ 65535 < c := h 26 (by omega)
  have f27 : c < 917504 ∨ 2147483647 < c := h 27 (by omega)
  clear h
  refine ⟨by unfold Barred; omega, m_self (by omega) (by omega) (by omega) (by unfold Cap; omega) (by omega) (by omega), by omega, by omega⟩
theorem wide_back {c : Int} (h1 : 65281 ≤ c) (h2 : c ≤ 65374) : ¬ Barred c ∧ ¬ Barred (c - 65248) ∧ mapTo (c - 65248) = mapTo c := by
  refine ⟨by unfold Barred; omega, by unfold Barred; omega, ?_⟩
  rw [m_rest (c := c) (by omega) (by omega), m_rest (c := c - 65248) (by omega) (by omega), wide_in ⟨h1, h2⟩, wide_out (by omega)]

/-! Pairs. -/
theorem made_at : ∀ i, i < 8 → ∀ j, j < 7 → madeAt i j = madeOf (letterTab.getD i 0) (markTab.getD j 0) := by decide +kernel
theorem pairs_in : ∀ p ∈ pairs, (∃ i, i < 8 ∧ letterTab.getD i 0 = p.1) ∧ ∃ j, j < 7 ∧ markTab.getD j 0 = p.2.1 := by decide +kernel
theorem made_none {a m : Int} (h : ∀ j, j < 7 → ∀ i, i < 8 → ¬ (markTab.getD j 0 = m ∧ letterTab.getD i 0 = a)) : madeOf a m = 0 := by
  by_cases e : madeOf a m = 0
  · exact e
  · obtain ⟨⟨i, hi, h1⟩, j, hj, h2⟩ := pairs_in _ (madeIn_ne e)
    exact absurd ⟨h2, h1⟩ (h j hj i hi)

/-! Composing as it goes. -/
/-- A code point behind a list that is composed. -/
def cadd (l : List Int) (x : Int) : List Int := match l.getLast? with
  | none => [x]
  | some a => if madeOf a x = 0 then l ++ [x] else l.dropLast ++ [madeOf a x]
theorem cadd_nil (x : Int) : cadd [] x = [x] := rfl
theorem cadd_cons {a : Int} {l : List Int} (x : Int) (h : l ≠ []) : cadd (a :: l) x = a :: cadd l x := by
  obtain ⟨y, t, rfl⟩ := List.exists_cons_of_ne_nil h
  unfold cadd
  rw [List.getLast?_cons_cons]
  cases e : (y :: t).getLast? with
  | none => simp at e
  | some z =>
    simp only
    split
    · rfl
    · simp [List.dropLast]
theorem comp_snoc (x : Int) : ∀ (n : Nat) (l : List Int), l.length ≤ n → comp (l ++ [x]) = cadd (comp l) x := by
  intro n
  induction n with
  | zero => intro l h; rw [List.eq_nil_of_length_eq_zero (l := l) (by omega)]; rfl
  | succ n ih =>
    intro l h
    match l, h with
    | [], _ => rfl
    | [a], _ =>
      by_cases e : madeOf a x = 0
      · show comp (a :: x :: []) = _
        rw [comp_keep e]
        simp [comp, cadd, e]
      · show comp (a :: x :: []) = _
        rw [comp_pair e]
        simp [comp, cadd, e]
    | a :: b :: t, h =>
      simp only [List.length_cons] at h
      by_cases e : madeOf a b = 0
      · rw [comp_keep e, cadd_cons x (comp_ne b t), ← ih (b :: t) (by simp only [List.length_cons]; omega)]
        show comp (a :: b :: (t ++ [x])) = _
        rw [comp_keep e]
        rfl
      · rw [comp_pair e]
        show comp (a :: b :: (t ++ [x])) = _
        rw [comp_pair e, ih t (by omega)]
        by_cases ht : comp t = []
        · rw [ht]
          simp [cadd, made_left e]
        · rw [cadd_cons x ht]
theorem cadd_length (l : List Int) (x : Int) : (cadd l x).length ≤ l.length + 1 := by
  unfold cadd
  split
  · simp
  · split
    · simp
    · simp
end Go.Proofs.YtfaieldafoeaiaaDoor

/-
  tell: what a code point is mapped to, handed on one by one; at the closures of Map and of Fold.
-/
namespace Go.Proofs.YtfaieldafoeaiaaDoor
open Go.RowKit

theorem span_apart : ∀ i, i < 28 → ∀ j, j < 28 → i < j → (spanAt i).2.1 < (spanAt j).1 := by decide +kernel
theorem holds_one {c : Int} {i j : Nat} (h : Holds c i) (k : Holds c j) : i = j := by
  obtain ⟨h0, h1, h2⟩ := h
  obtain ⟨k0, k1, k2⟩ := k
  rcases Nat.lt_trichotomy i j with h | h | h
  · have := span_apart i h0 j k0 h; omega
  · exact h
  · have := span_apart j k0 i h0 h; omega
/-- What spanOf tells of a number, whatever the world. -/
def SpanIs (c a b k d : Int) : Prop := ∀ w : World, Vars w → Calls Tryd.prog 57 #[.int .i32 c] w fun e w' => e = .returned (.agg #[.int .i32 a, .int .i32 b, .int .i64 k, .int .i32 d]) ∧ Below w.heap.size w w'
theorem span_is (c : Int) (h0 : -2147483648 ≤ c) (h1 : c < 2147483648) : ∃ a b k d, SpanIs c a b k d ∧ Tells c k d := by
  by_cases h : ∃ i, Holds c i
  · obtain ⟨i, hi⟩ := h
    refine ⟨(spanAt i).1, (spanAt i).2.1, (spanAt i).2.2.1, (spanAt i).2.2.2, fun w hv => (spanOf_any c w hv).mono ?_, span_tells hi⟩
    rintro e w' ⟨⟨j, hj, rfl⟩ | ⟨hf, rfl⟩, hb⟩
    · rw [holds_one hi hj]; exact ⟨rfl, hb⟩
    · obtain ⟨x, y, z⟩ := hi
      have := hf i x
      omega
  · refine ⟨0, 0, 0, 0, fun w hv => (spanOf_any c w hv).mono ?_, ?_⟩
    · rintro e w' ⟨⟨j, hj, rfl⟩ | ⟨hf, rfl⟩, hb⟩
      · exact absurd ⟨j, hj⟩ h
      · exact ⟨rfl, hb⟩
    · have hf : Free c := fun i hi => by
        rcases Int.lt_or_le c (spanAt i).1 with x | x
        · exact .inl x
        · rcases Int.lt_or_le (spanAt i).2.1 c with y | y
          · exact .inr y
          · exact absurd ⟨i, hi, x, y⟩ h
      obtain ⟨a, b, e, f⟩ := free_tells hf h0 h1
      exact .inr (.inr (.inr (.inr (.inr ⟨rfl, a, by rw [b]; simp, e, f, by omega, by omega⟩))))
theorem span_wide (c : Int) (h0 : 65281 ≤ c) (h1 : c ≤ 65374) : ∃ a b d, SpanIs c a b 4 d := by
  have hi : Holds c 24 := ⟨by omega, h0, h1⟩
  refine ⟨65281, 65374, 0, fun w hv => (spanOf_any c w hv).mono ?_⟩
  rintro e w' ⟨⟨j, hj, rfl⟩ | ⟨hf, rfl⟩, hb⟩
  · rw [← holds_one hi hj]; exact ⟨rfl, hb⟩
  · obtain ⟨x, y, z⟩ := hi
    have := hf 24 x
    omega

def TellPostJ (I : List Int → World → Prop) (acc : List Int) (c : Int) (e : Ending) (w' : World) : Prop :=
  (Barred c ∧ e = .returned (.bool false) ∧ I acc w') ∨ (¬ Barred c ∧ e = .returned (.bool true) ∧ I (acc ++ mapTo c) w')
/-- What is asked of a closure that is handed code points: something of the world that new memory leaves as it is, and that a call takes one further. -/
structure Takes (f : Nat) (p : Addr) (I : List Int → World → Prop) : Prop where
  carry : ∀ acc w w', I acc w → Below w.heap.size w w' → I acc w'
  vars : ∀ acc w, I acc w → Vars w
  call : ∀ acc x w, I acc w → acc.length ≤ 2990 → Calls Tryd.prog f #[.int .i32 x, .pointer (some p)] w fun e w' => e = .returned (.tuple #[]) ∧ I (acc ++ [x]) w'

set_option maxHeartbeats 1000000 in
set_option maxRecDepth 100000 in
theorem tell_flat_fold (p : Addr) (I : List Int → World → Prop) (T : Takes 31 p I) (c : Int) (acc : List Int) (w : World) (hi : I acc w) (hl : acc.length ≤ 2900) (h0 : -2147483648 ≤ c) (h1 : c < 2147483648) (hn : ¬ (65281 ≤ c ∧ c ≤ 65374)) :
    Calls Tryd.prog 33 #[.int .i32 c, .func (.func 31) #[] #[.pointer (some p)]] w (TellPostJ I acc c) := by
  obtain ⟨a, b, k, d, hs, ht⟩ := span_is c h0 h1
  have HT := Lib.hid T
  have HS := Lib.hid hs
  have HI := Lib.hid hi
  clear T hs hi
  rcases ht with ⟨rfl, hb⟩ | ⟨rfl, hb, hm⟩ | ⟨rfl, hb, hm⟩ | ⟨_, hx⟩ | ⟨rfl, hb, hm⟩ | ⟨rfl, hb, hm, hc0, hc1, hd0, hd1⟩
  · have HBd := Lib.hid hb
    clear hb
    go_enter Tryd.func33, Tryd.ntmps33
    go_wp2_with (first
      | (go_at_call 57; refine (HS.out _ (HT.out.vars _ _ HI.out)).mono ?_; rintro e w1 ⟨rfl, hb⟩; have HI1 := Lib.hid (HT.out.carry _ _ _ (HT.out.carry _ _ _ HI.out hb) ((Below.refl _ _).alloc (Nat.le_refl _) (.cells #[.int .i32 a, .int .i32 b, .int .i64 1, .int .i32 d] 99))); clear hb))
    go_ret
    exact .inl ⟨HBd.out, rfl, HI1.out⟩
  · have HBd := Lib.hid hb
    have HM := Lib.hid hm
    clear hb hm
    go_enter Tryd.func33, Tryd.ntmps33
    go_wp2_with (first
      | (go_at_call 57; refine (HS.out _ (HT.out.vars _ _ HI.out)).mono ?_; rintro e w1 ⟨rfl, hb⟩; have HI1 := Lib.hid (HT.out.carry _ _ _ (HT.out.carry _ _ _ HI.out hb) ((Below.refl _ _).alloc (Nat.le_refl _) (.cells #[.int .i32 a, .int .i32 b, .int .i64 2, .int .i32 d] 99))); clear hb))
    go_ret
    exact .inr ⟨HBd.out, rfl, by rw [HM.out, List.append_nil]; exact HI1.out⟩
  · have HBd := Lib.hid hb
    have HM := Lib.hid hm
    clear hb hm
    go_enter Tryd.func33, Tryd.ntmps33
    go_wp2_with (first
      | (go_at_call 57; refine (HS.out _ (HT.out.vars _ _ HI.out)).mono ?_; rintro e w1 ⟨rfl, hb⟩; have HI1 := Lib.hid (HT.out.carry _ _ _ (HT.out.carry _ _ _ HI.out hb) ((Below.refl _ _).alloc (Nat.le_refl _) (.cells #[.int .i32 a, .int .i32 b, .int .i64 3, .int .i32 d] 99))); clear hb)
      | (go_at_call 31; refine (HT.out.call acc _ _ HI1.out (by omega)).mono ?_; rintro e w2 ⟨rfl, hi2⟩; have HI2 := Lib.hid hi2; clear hi2))
    go_ret
    exact .inr ⟨HBd.out, rfl, by rw [HM.out]; exact HI2.out⟩
  · omega
  · have HBd := Lib.hid hb
    have HM := Lib.hid hm
    clear hb hm
    go_enter Tryd.func33, Tryd.ntmps33
    go_wp2_with (first
      | (go_at_call 57; refine (HS.out _ (HT.out.vars _ _ HI.out)).mono ?_; rintro e w1 ⟨rfl, hb⟩; have HI1 := Lib.hid (HT.out.carry _ _ _ (HT.out.carry _ _ _ HI.out hb) ((Below.refl _ _).alloc (Nat.le_refl _) (.cells #[.int .i32 a, .int .i32 b, .int .i64 5, .int .i32 d] 99))); clear hb)
      | (go_at_call 31; refine (HT.out.call (acc ++ [115]) _ _ HI2.out (by simp; omega)).mono ?_; rintro e w3 ⟨rfl, hi3⟩; have HI3 := Lib.hid hi3; clear hi3)
      | (go_at_call 31; refine (HT.out.call acc _ _ HI1.out (by omega)).mono ?_; rintro e w2 ⟨rfl, hi2⟩; have HI2 := Lib.hid hi2; clear hi2))
    go_ret
    exact .inr ⟨HBd.out, rfl, by rw [HM.out]; have := HI3.out; rw [List.append_assoc] at this; exact this⟩
  · have HBd := Lib.hid hb
    have HM := Lib.hid hm
    clear hb hm
    go_enter Tryd.func33, Tryd.ntmps33
    go_wp2_with (first
      | (go_at_call 57; refine (HS.out _ (HT.out.vars _ _ HI.out)).mono ?_; rintro e w1 ⟨rfl, hb⟩; have HI1 := Lib.hid (HT.out.carry _ _ _ (HT.out.carry _ _ _ HI.out hb) ((Below.refl _ _).alloc (Nat.le_refl _) (.cells #[.int .i32 a, .int .i32 b, .int .i64 0, .int .i32 d] 99))); clear hb)
      | (go_at_call 31; refine (HT.out.call acc _ _ HI1.out (by omega)).mono ?_; rintro e w2 ⟨rfl, hi2⟩; have HI2 := Lib.hid hi2; clear hi2))
    go_ret
    exact .inr ⟨HBd.out, rfl, by rw [HM.out]; exact HI2.out⟩

set_option maxHeartbeats 1000000 in
set_option maxRecDepth 100000 in
theorem tell_fold (p : Addr) (I : List Int → World → Prop) (T : Takes 31 p I) (c : Int) (acc : List Int) (w : World) (hi : I acc w) (hl : acc.length ≤ 2900) (h0 : -2147483648 ≤ c) (h1 : c < 2147483648) :
    Calls Tryd.prog 33 #[.int .i32 c, .func (.func 31) #[] #[.pointer (some p)]] w (TellPostJ I acc c) := by
  by_cases hn : 65281 ≤ c ∧ c ≤ 65374
  · obtain ⟨a, b, d, hs⟩ := span_wide c hn.1 hn.2
    obtain ⟨hw1, hw2, hw3⟩ := wide_back hn.1 hn.2
    have HT := Lib.hid T
    have HS := Lib.hid hs
    have HI := Lib.hid hi
    have HW := Lib.hid (And.intro hw1 (And.intro hw2 hw3))
    clear T hs hi hw1 hw2 hw3
    obtain ⟨n1, n2⟩ := hn
    go_enter Tryd.func33, Tryd.ntmps33
    go_wp2_with (first
      | (go_at_call 57; refine (HS.out _ (HT.out.vars _ _ HI.out)).mono ?_; rintro e w1 ⟨rfl, hb⟩; have HI1 := Lib.hid (HT.out.carry _ _ _ (HT.out.carry _ _ _ HI.out hb) ((Below.refl _ _).alloc (Nat.le_refl _) (.cells #[.int .i32 a, .int .i32 b, .int .i64 4, .int .i32 d] 99))); clear hb)
      | (go_at_call 33; refine (tell_flat_fold p I HT.out (c - 65248) acc _ HI1.out hl (by omega) (by omega) (by omega)).mono ?_
         rintro e w2 (⟨hb, _⟩ | ⟨_, rfl, hi2⟩)
         · exact absurd hb HW.out.2.1
         have HI2 := Lib.hid hi2; clear hi2))
    go_ret
    exact .inr ⟨HW.out.1, rfl, by rw [← HW.out.2.2]; exact HI2.out⟩
  · exact tell_flat_fold p I T c acc w hi hl h0 h1 hn
end Go.Proofs.YtfaieldafoeaiaaDoor

/-
  pair: what a letter and a mark make.
-/
namespace Go.Proofs.YtfaieldafoeaiaaDoor
open Go.RowKit

theorem index_marks : ∀ k, k < 7 → ∀ W, Sem.run Tryd.prog (Instr.index 126 (.agg #[.int .i32 768, .int .i32 769, .int .i32 770, .int .i32 771, .int .i32 776, .int .i32 778, .int .i32 807]) (.int .i64 (k : Nat))) W = .ok (.int .i32 (markTab.getD k 0)) W := by
  intro k hk W
  match k, hk with
  | 0, _ => show Sem.run _ _ W = _; kernel_rfl
  | 1, _ => show Sem.run _ _ W = _; kernel_rfl
  | 2, _ => show Sem.run _ _ W = _; kernel_rfl
  | 3, _ => show Sem.run _ _ W = _; kernel_rfl
  | 4, _ => show Sem.run _ _ W = _; kernel_rfl
  | 5, _ => show Sem.run _ _ W = _; kernel_rfl
  | 6, _ => show Sem.run _ _ W = _; kernel_rfl
theorem index_letters : ∀ k, k < 8 → ∀ W, Sem.run Tryd.prog (Instr.index 127 (.agg #[.int .i32 97, .int .i32 99, .int .i32 101, .int .i32 105, .int .i32 110, .int .i32 111, .int .i32 117, .int .i32 121]) (.int .i64 (k : Nat))) W = .ok (.int .i32 (letterTab.getD k 0)) W := by
  intro k hk W
  match k, hk with
  | 0, _ => show Sem.run _ _ W = _; kernel_rfl
  | 1, _ => show Sem.run _ _ W = _; kernel_rfl
  | 2, _ => show Sem.run _ _ W = _; kernel_rfl
  | 3, _ => show Sem.run _ _ W = _; kernel_rfl
  | 4, _ => show Sem.run _ _ W = _; kernel_rfl
  | 5, _ => show Sem.run _ _ W = _; kernel_rfl
  | 6, _ => show Sem.run _ _ W = _; kernel_rfl
  | 7, _ => show Sem.run _ _ W = _; kernel_rfl

set_option maxHeartbeats 1000000 in
set_option maxRecDepth 100000 in
theorem pair_any (a m : Int) (w : World) (hv : Vars w) : Calls Tryd.prog 56 #[.int .i32 a, .int .i32 m] w fun e w' => e = .returned (.int .i32 (madeOf a m)) ∧ Below w.heap.size w w' := by
  have HV := Lib.hid hv
  have m0 : w.cell? ⟨1, 0, none⟩ = some (.int .i32 768) := hv.marks 0 (by omega)
  have m1 : w.cell? ⟨1, 1, none⟩ = some (.int .i32 769) := hv.marks 1 (by omega)
  have m2 : w.cell? ⟨1, 2, none⟩ = some (.int .i32 770) := hv.marks 2 (by omega)
  have m3 : w.cell? ⟨1, 3, none⟩ = some (.int .i32 771) := hv.marks 3 (by omega)
  have m4 : w.cell? ⟨1, 4, none⟩ = some (.int .i32 776) := hv.marks 4 (by omega)
  have m5 : w.cell? ⟨1, 5, none⟩ = some (.int .i32 778) := hv.marks 5 (by omega)
  have m6 : w.cell? ⟨1, 6, none⟩ = some (.int .i32 807) := hv.marks 6 (by omega)
  clear hv
  go_enter Tryd.func56, Tryd.ntmps56
  go_wp2
  clear m0 m1 m2 m3 m4 m5 m6
  go_loopw [4, 10] (fun v4 i wr => ∃ k : Nat, k ≤ 7 ∧ v4 = .int .i32 0 ∧ i = .int .i64 k ∧ Below w.heap.size w wr ∧ ∀ j, j < k → ∀ r, r < 8 → ¬ (markTab.getD j 0 = m ∧ letterTab.getD r 0 = a)) (fun _ i _ => 7 - (intOf i).toNat)
  case atStart => exact ⟨0, by omega, rfl, rfl, Below.refl _ _, fun j hj => by omega⟩
  case round =>
    obtain ⟨k, hk, rfl, rfl, hb, hno⟩ := hrel
    have HN := Lib.hid hno
    have HB := Lib.hid hb
    have hvr := HV.out.below hb
    clear hno hb
    by_cases hlt : k < 7
    · have hix := index_marks k hlt
      obtain ⟨x, hx⟩ : ∃ x, markTab.getD k 0 = x := ⟨_, rfl⟩
      rw [hx] at hix
      by_cases hxm : x = m
      · subst hxm
        have HX := Lib.hid hx
        clear hx
        have n0 : wr.cell? ⟨2, 0, none⟩ = some (.int .i32 97) := hvr.letters 0 (by omega)
        have n1 : wr.cell? ⟨2, 1, none⟩ = some (.int .i32 99) := hvr.letters 1 (by omega)
        have n2 : wr.cell? ⟨2, 2, none⟩ = some (.int .i32 101) := hvr.letters 2 (by omega)
        have n3 : wr.cell? ⟨2, 3, none⟩ = some (.int .i32 105) := hvr.letters 3 (by omega)
        have n4 : wr.cell? ⟨2, 4, none⟩ = some (.int .i32 110) := hvr.letters 4 (by omega)
        have n5 : wr.cell? ⟨2, 5, none⟩ = some (.int .i32 111) := hvr.letters 5 (by omega)
        have n6 : wr.cell? ⟨2, 6, none⟩ = some (.int .i32 117) := hvr.letters 6 (by omega)
        have n7 : wr.cell? ⟨2, 7, none⟩ = some (.int .i32 121) := hvr.letters 7 (by omega)
        have HR := Lib.hid hvr
        clear hvr
        go_wp2
        clear n0 n1 n2 n3 n4 n5 n6 n7
        go_loopw [4, 18] (fun v4 i ws => ∃ r : Nat, r ≤ 8 ∧ v4 = .int .i32 0 ∧ i = .int .i64 r ∧ Below wr.heap.size wr ws ∧ ∀ j, j < r → letterTab.getD j 0 ≠ a) (fun _ i _ => 8 - (intOf i).toNat)
        case atStart => exact ⟨0, by omega, rfl, rfl, Below.refl _ _, fun j hj => by omega⟩
        case round =>
          obtain ⟨r, hr, rfl, rfl, hb, hno⟩ := hrel
          have HN2 := Lib.hid hno
          have HB2 := Lib.hid hb
          have hvr := HR.out.below hb
          clear hno hb
          by_cases hlr : r < 8
          · have hiy := index_letters r hlr
            obtain ⟨y, hy⟩ : ∃ y, letterTab.getD r 0 = y := ⟨_, rfl⟩
            rw [hy] at hiy
            by_cases hya : y = a
            · subst hya
              have hmk := hvr.made r k hlr hlt
              rw [made_at r hlr k hlt, hy, HX.out] at hmk
              clear hy hvr
              go_wp2
              go_ret
              exact ⟨rfl, HB.out.trans (HB2.out.mono HB.out.size)⟩
            · have HY := Lib.hid hy
              clear hy hvr
              go_wp2
              refine ⟨⟨r + 1, by omega, rfl, by go_num, HB2.out, fun j hj => ?_⟩, by simp [intOf]; omega⟩
              rcases Nat.lt_or_ge j r with h | h
              · exact HN2.out j h
              · obtain rfl : j = r := by omega
                rw [HY.out]; exact hya
          · clear hvr
            go_wp2
            refine ⟨⟨k + 1, by omega, rfl, by go_num, HB.out.trans (HB2.out.mono HB.out.size), fun j hj i hi => ?_⟩, by simp [intOf]; omega⟩
            rcases Nat.lt_or_ge j k with h | h
            · exact HN.out j h i hi
            · exact fun e => HN2.out i (by omega) e.2
      · have HX := Lib.hid hx
        clear hx hvr
        go_wp2
        refine ⟨⟨k + 1, by omega, rfl, by go_num, HB.out, fun j hj i hi => ?_⟩, by simp [intOf]; omega⟩
        rcases Nat.lt_or_ge j k with h | h
        · exact HN.out j h i hi
        · obtain rfl : j = k := by omega
          rw [HX.out]; exact fun e => hxm e.1
    · clear hvr
      go_wp2
      go_ret
      exact ⟨by rw [made_none (fun j hj i hi => HN.out j (by omega) i hi)]; rfl, HB.out⟩
end Go.Proofs.YtfaieldafoeaiaaDoor

/-
  add: a code point behind a list that is composed.
-/
namespace Go.Proofs.YtfaieldafoeaiaaDoor
open Go.RowKit

def AddPost (B : Nat) (l : List Int) (x : Int) (w : World) (e : Ending) (w' : World) : Prop := ∃ v, e = .returned v ∧ RowN B w' v (cadd l x) ∧ Below B w w'
theorem pair_is {a m z : Int} (h : madeOf a m = z) (w : World) (hv : Vars w) : Calls Tryd.prog 56 #[.int .i32 a, .int .i32 m] w fun e w' => e = .returned (.int .i32 z) ∧ Below w.heap.size w w' := h ▸ pair_any a m w hv
theorem cadd_keep {t : List Int} {a x : Int} (h : madeOf a x = 0) : cadd (t ++ [a]) x = (t ++ [a]) ++ [x] := by unfold cadd; simp [h]
theorem cadd_pair {t : List Int} {a x : Int} (h : madeOf a x ≠ 0) : cadd (t ++ [a]) x = t ++ [madeOf a x] := by unfold cadd; simp [h]

set_option maxHeartbeats 1000000 in
set_option maxRecDepth 100000 in
theorem add_none (B : Nat) (v : Value) (x : Int) (w : World) (hrow : RowN B w v []) (hB : B ≤ w.heap.size) :
    Calls Tryd.prog 32 #[v, .int .i32 x] w (AddPost B [] x w) := by
  obtain ⟨A, cap, rfl⟩ : ∃ A cap, v = .slice A 0 cap := by
    rcases hrow.2 with ⟨h, _⟩ | ⟨g, cap, cur, h, _⟩
    · exact ⟨_, _, h⟩
    · exact ⟨_, _, h⟩
  have HR := Lib.hid hrow
  clear hrow
  go_enter Tryd.func32, Tryd.ntmps32
  go_wp2_with (at_builtin
               refine append_from rfl (.tmp 25) (.tmp 27) rfl B _ [] (some ⟨w.heap.size, 0, none⟩) 1 1 [x] rfl rfl (HR.out.below ((Below.refl _ _).alloc (Nat.le_refl _) _)) (runes_one w x) rfl (fun h => by cases h) (by simp) (by simp; omega) ?_
               intro v' w' hr' hb'
               have HP := Lib.hid (And.intro hr' (((Below.refl B w).alloc hB _).trans hb'))
               clear hr' hb')
  go_ret
  exact ⟨_, rfl, HP.out.1, HP.out.2⟩

set_option maxHeartbeats 1000000 in
set_option maxRecDepth 100000 in
theorem add_some (B : Nat) (v : Value) (t : List Int) (a x : Int) (w : World) (hv : Vars w) (hrow : RowN B w v (t ++ [a])) (hB : B ≤ w.heap.size) (hl : t.length ≤ 3000) :
    Calls Tryd.prog 32 #[v, .int .i32 x] w (AddPost B (t ++ [a]) x w) := by
  obtain ⟨g, cap, rfl⟩ : ∃ g cap, v = .slice (some ⟨g, 0, none⟩) (t.length + 1) cap := by
    rcases hrow.2 with ⟨h, h0⟩ | ⟨g, cap, cur, h, _⟩
    · simp at h0
    · exact ⟨g, cap, by simpa using h⟩
  have hrow' : w.ownsRow B 21 1 (.slice (some ⟨g, 0, none⟩) (t.length + 1) cap) (t.length + 1) ((t ++ [a]).map (Value.int .i32)) := by
    have := hrow
    unfold RowN at this
    simpa using this
  have hc : w.cell? ⟨g, t.length, none⟩ = some (.int .i32 a) := by
    rw [hrow'.cellAt t.length (by omega)]
    simp
  have hg : g < w.heap.size ∧ B ≤ g := by
    have := hrow'.lt g rfl
    omega
  have HV := Lib.hid hv
  have HR := Lib.hid hrow'
  have HN0 := Lib.hid hrow
  clear hv hrow hrow'
  by_cases hz : madeOf a x = 0
  · have HZ := Lib.hid hz
    clear hz
    go_enter Tryd.func32, Tryd.ntmps32
    go_wp2_with (first
      | (go_at_call 56; refine (pair_is HZ.out _ HV.out).mono ?_; rintro e w1 ⟨rfl, hb⟩; have HB := Lib.hid hb; clear hb)
      | (at_builtin
         refine append_from rfl (.tmp 25) (.tmp 27) rfl B _ (t ++ [a]) (some ⟨w1.heap.size, 0, none⟩) 1 1 [x] rfl rfl ?h1 (runes_one w1 x) rfl (fun h => by cases h) ?h2 ?h3 ?_
         case h1 => exact HN0.out.below (HB.out.alloc HB.out.size (.cells #[.int .i32 x] 21))
         case h2 => simp; omega
         case h3 => have := HB.out.size; simp; omega
         intro v' w' hr' hb'
         have HP := Lib.hid (And.intro hr' (((HB.out.mono hB).alloc (Nat.le_trans hB HB.out.size) _).trans hb'))
         clear hr' hb'))
    go_ret
    exact ⟨_, rfl, by rw [cadd_keep HZ.out]; exact HP.out.1, HP.out.2⟩
  · obtain ⟨z, hz1⟩ : ∃ z, madeOf a x = z := ⟨_, rfl⟩
    have HN := Lib.hid hz
    rw [hz1] at hz
    have HZ := Lib.hid hz1
    clear hz1
    go_enter Tryd.func32, Tryd.ntmps32
    go_wp2_with (first
      | (go_at_call 56; refine (pair_is HZ.out _ HV.out).mono ?_; rintro e w1 ⟨rfl, hb⟩
         have hro := own_below HR.out hb
         have hc1 := (hb.cell (p := ⟨g, t.length, none⟩) hg.1).trans hc
         have hf1 := hro.frozenAt t.length
         have HO := Lib.hid hro
         have HB := Lib.hid hb; clear hb hro hc))
    go_ret
    obtain ⟨h1, h2⟩ := HO.out.stored t.length (.int .i32 z)
    refine ⟨_, rfl, ?_, ?_⟩
    · rw [cadd_pair HN.out, HZ.out]
      unfold RowN
      have : ((t ++ [a]).map (Value.int .i32)).set t.length (.int .i32 z) = (t ++ [z]).map (Value.int .i32) := by
        rw [List.map_append, List.map_append, List.set_append_right _ _ (by simp)]
        simp
      rw [this] at h1
      simpa using h1
    · exact (HB.out.mono hB).setCell (by simpa using hg.2) _
theorem add_any (B : Nat) (v : Value) (l : List Int) (x : Int) (w : World) (hv : Vars w) (hrow : RowN B w v l) (hB : B ≤ w.heap.size) (hl : l.length ≤ 3000) :
    Calls Tryd.prog 32 #[v, .int .i32 x] w (AddPost B l x w) := by
  rcases List.eq_nil_or_concat l with rfl | ⟨t, a, rfl⟩
  · exact add_none B v x w hrow hB
  · rw [List.concat_eq_append] at hrow hl ⊢
    exact add_some B v t a x w hv hrow hB (by simp at hl; omega)
end Go.Proofs.YtfaieldafoeaiaaDoor

/-
  The closures of Map and of Fold: a slice in a box that grows.
-/
namespace Go.Proofs.YtfaieldafoeaiaaDoor
open Go.RowKit

/-- A box in block pb, made since w0, holds a slice of the call's own, behind it, that reads as g of what was handed on. -/
structure BoxI (w0 : World) (pb : Nat) (g : List Int → List Int) (acc : List Int) (w : World) : Prop where
  vars : Vars w
  old : Below w0.heap.size w0 w
  ge : w0.heap.size ≤ pb
  lt : pb + 1 ≤ w.heap.size
  nil : acc = [] → w.heap[pb]? = some (.cells #[.slice none 0 0] 22 (0, 0))
  box : ∃ v, w.heap[pb]? = some (.cells #[v] 22 (0, 0)) ∧ RowN (pb + 1) w v (g acc)
theorem BoxI.carry {w0 : World} {pb : Nat} {g : List Int → List Int} {acc : List Int} {w w' : World} (h : BoxI w0 pb g acc w) (hb : Below w.heap.size w w') : BoxI w0 pb g acc w' := by
  obtain ⟨v, h1, h2⟩ := h.box
  exact ⟨h.vars.below hb, h.old.trans (hb.mono h.old.size), h.ge, Nat.le_trans h.lt hb.size, fun e => (hb.block pb h.lt).trans (h.nil e), v, (hb.block pb h.lt).trans h1, h2.below hb⟩
/-- Behind the store of a new slice into the box. -/
theorem BoxI.put {w0 : World} {pb : Nat} {g : List Int → List Int} {acc acc' : List Int} {w w' : World} {v' : Value} (h : BoxI w0 pb g acc w) (hv0 : Vars w0) (hb : Below (pb + 1) w w') (hr : RowN (pb + 1) w' v' (g acc')) (hne : acc' ≠ []) :
    BoxI w0 pb g acc' (w'.setCell ⟨pb, 0, none⟩ v') := by
  obtain ⟨v, h1, h2⟩ := h.box
  have hge := h.ge
  have hb0 : Below w0.heap.size w w' := hb.mono (by omega)
  have hb1 : Below w0.heap.size w (w'.setCell ⟨pb, 0, none⟩ v') := hb0.setCell (by simpa using hge) _
  have hp : w'.heap[pb]? = some (.cells #[v] 22 (0, 0)) := (hb.block pb (by omega)).trans h1
  refine ⟨h.vars.belowB hv0 hb1, h.old.trans hb1, hge, ?_, fun e => absurd e hne, v', ?_, ?_⟩
  · have := hb.size; have := h.lt; simp; omega
  · have := heap_setCell_same w' pb 0 #[v] 22 v' hp
    simpa using this
  · exact ownsRow_setCell_below hr (by simp) v'
theorem BoxI.cell {w0 : World} {pb : Nat} {g : List Int → List Int} {acc : List Int} {w : World} (h : BoxI w0 pb g acc w) : ∃ v, w.cell? ⟨pb, 0, none⟩ = some v ∧ w.frozen? ⟨pb, 0, none⟩ = false ∧ RowN (pb + 1) w v (g acc) := by
  obtain ⟨v, h1, h2⟩ := h.box
  obtain ⟨a, b⟩ := spot_at h1 0 rfl
  exact ⟨v, a, b, h2⟩

theorem RowN.shape {B : Nat} {w : World} {v : Value} {l : List Int} (h : RowN B w v l) : ∃ A n c, v = .slice A n c := by
  rcases h.2 with ⟨h, _⟩ | ⟨g, cap, cur, h, _⟩
  · exact ⟨_, _, _, h⟩
  · exact ⟨_, _, _, h⟩

theorem comp_add (acc : List Int) (x : Int) : cadd (comp acc) x = comp (acc ++ [x]) := (comp_snoc x acc.length acc (Nat.le_refl _)).symm

set_option maxHeartbeats 1000000 in
set_option maxRecDepth 100000 in
theorem fold1_any (w0 : World) (hv0 : Vars w0) (pb : Nat) (acc : List Int) (x : Int) (w : World) (h : BoxI w0 pb comp acc w) (hl : acc.length ≤ 2990) :
    Calls Tryd.prog 31 #[.int .i32 x, .pointer (some ⟨pb, 0, none⟩)] w fun e w' => e = .returned (.tuple #[]) ∧ BoxI w0 pb comp (acc ++ [x]) w' := by
  obtain ⟨v, hc, hf, hr⟩ := h.cell
  have hlt := h.lt
  have hl2 : (comp acc).length ≤ 3000 := Nat.le_trans (comp_length acc.length acc (Nat.le_refl _)) (by omega)
  have HI := Lib.hid h
  have HV := Lib.hid hv0
  have HR := Lib.hid hr
  have HL := Lib.hid hl2
  clear h hv0 hr hl2
  go_enter Tryd.func31, Tryd.ntmps31
  go_wp2_with (go_at_call 32; refine (add_any (pb + 1) v (comp acc) x _ HI.out.vars HR.out hlt HL.out).mono ?_
               rintro e w' ⟨v', rfl, hr', hbb⟩
               obtain ⟨A', n', c', hvv⟩ := hr'.shape
               subst hvv
               have hc' := (hbb.cell (p := ⟨pb, 0, none⟩) (Nat.lt_succ_self pb)).trans hc
               have hf' := (hbb.frozen (p := ⟨pb, 0, none⟩) (Nat.lt_succ_self pb)).trans hf
               rw [comp_add] at hr'
               have HP := Lib.hid (And.intro hr' hbb)
               clear hr' hbb hc hf)
  go_end0
  exact ⟨rfl, HI.out.put HV.out HP.out.2 HP.out.1 (by simp)⟩
theorem takes_fold (w0 : World) (hv0 : Vars w0) (pb : Nat) : Takes 31 ⟨pb, 0, none⟩ (BoxI w0 pb comp) :=
  ⟨fun _ _ _ h hb => h.carry hb, fun _ _ h => h.vars, fun acc x w h hl => fold1_any w0 hv0 pb acc x w h hl⟩
end Go.Proofs.YtfaieldafoeaiaaDoor

/-
  errors.As by its contracts, at the two targets that package fail uses. Go's own text of errors.As and errors.as is walked.
-/
namespace Go.Proofs.YtfaieldafoeaiaaDoor
open Go.RowKit Go.Extern.Stop Go.Stop Go.Extern


theorem valueOfE (t : Addr) (w : World) : (ReflectliteValue.unpack (.iface 72 (.pointer (some t)))).run Tryd.prog w
    = .ok (.agg #[.pointer (some ⟨6, 72, none⟩), .pointer (some ⟨w.heap.size, 0, none⟩), .int .u64 150]) (w.alloc (.cells #[.pointer (some t)] 72)) := by kernel_rfl
theorem typeE (a : Addr) (w : World) : (ReflectliteValue.methodAny (ReflectliteValue.valueError "reflectlite.Value.Type" 0) (fun t _ _ _ => ReflectliteType.toType t) #[.agg #[.pointer (some ⟨6, 72, none⟩), .pointer (some a), .int .u64 150]]).run Tryd.prog w
    = .ok (.iface 87 (.agg #[.pointer (some ⟨6, 72, none⟩)])) w := by kernel_rfl
theorem kindPE (w : World) : ((ReflectliteType.abiMethod fun t => (fun a : Nat => Value.int IntKind.u8 (a : Int)) <$> Rtype.kind t) #[.pointer (some ⟨6, 72, none⟩)]).run Tryd.prog w = .ok (.int .u8 22) w := by kernel_rfl
theorem kindEE (w : World) : ((ReflectliteType.abiMethod fun t => (fun a : Nat => Value.int IntKind.u8 (a : Int)) <$> Rtype.kind t) #[.pointer (some ⟨6, 30, none⟩)]).run Tryd.prog w = .ok (.int .u8 2) w := by kernel_rfl
theorem partsPE (a : Addr) (w : World) : (ReflectliteValue.parts (.agg #[.pointer (some ⟨6, 72, none⟩), .pointer (some a), .int .u64 150])).run Tryd.prog w = .ok (some (72, a, 150)) w := by kernel_rfl
theorem elemTE (w : World) : (ReflectliteType.method ReflectliteType.elem #[.agg #[.pointer (some ⟨6, 72, none⟩)]]).run Tryd.prog w = .ok (.iface 87 (.agg #[.pointer (some ⟨6, 30, none⟩)])) w := by kernel_rfl
theorem implementsE (w : World) : (ReflectliteType.relation "Implements" ReflectliteType.implements_ #[.agg #[.pointer (some ⟨6, 30, none⟩)], .iface 87 (.agg #[.pointer (some ⟨6, 25, none⟩)])]).run Tryd.prog w = .ok (.bool true) w := by kernel_rfl
theorem typeOfE (v : Value) (w : World) : (ReflectliteType.typeOf #[.iface 30 v]).run Tryd.prog w = .ok (.iface 87 (.agg #[.pointer (some ⟨6, 30, none⟩)])) w := by kernel_rfl
theorem elemOfE (w : World) : (Rtype.elem? 72).run Tryd.prog w = .ok (some 30) w := by kernel_rfl
theorem mkE (p : Addr) (w : World) : (ReflectliteValue.mk 30 p ReflectliteValue.flagAddr).run Tryd.prog w = .ok (.agg #[.pointer (some ⟨6, 30, none⟩), .pointer (some p), .int .u64 386]) w := by kernel_rfl
theorem partsAE (a : Addr) (w : World) : (ReflectliteValue.parts (.agg #[.pointer (some ⟨6, 30, none⟩), .pointer (some a), .int .u64 386])).run Tryd.prog w = .ok (some (30, a, 386)) w := by kernel_rfl
theorem partsVE (a : Addr) (w : World) : (ReflectliteValue.parts (.agg #[.pointer (some ⟨6, 30, none⟩), .pointer (some a), .int .u64 130])).run Tryd.prog w = .ok (some (30, a, 130)) w := by kernel_rfl
theorem directE (w : World) : (Rtype.directlyAssignable 30 30).run Tryd.prog w = .ok true w := by kernel_rfl


theorem kindEF (w : World) : ((ReflectliteType.abiMethod fun t => (fun a : Nat => Value.int IntKind.u8 (a : Int)) <$> Rtype.kind t) #[.pointer (some ⟨6, 101, none⟩)]).run Tryd.prog w = .ok (.int .u8 22) w := by kernel_rfl
theorem implementsF (w : World) : (ReflectliteType.relation "Implements" ReflectliteType.implements_ #[.agg #[.pointer (some ⟨6, 101, none⟩)], .iface 87 (.agg #[.pointer (some ⟨6, 25, none⟩)])]).run Tryd.prog w = .ok (.bool true) w := by kernel_rfl
theorem typeOfF (v : Value) (w : World) : (ReflectliteType.typeOf #[.iface 101 v]).run Tryd.prog w = .ok (.iface 87 (.agg #[.pointer (some ⟨6, 101, none⟩)])) w := by kernel_rfl
theorem mkF (p : Addr) (w : World) : (ReflectliteValue.mk 101 p ReflectliteValue.flagAddr).run Tryd.prog w = .ok (.agg #[.pointer (some ⟨6, 101, none⟩), .pointer (some p), .int .u64 406]) w := by kernel_rfl
theorem partsAF (a : Addr) (w : World) : (ReflectliteValue.parts (.agg #[.pointer (some ⟨6, 101, none⟩), .pointer (some a), .int .u64 406])).run Tryd.prog w = .ok (some (101, a, 406)) w := by kernel_rfl
theorem partsVF (a : Addr) (w : World) : (ReflectliteValue.parts (.agg #[.pointer (some ⟨6, 101, none⟩), .pointer (some a), .int .u64 150])).run Tryd.prog w = .ok (some (101, a, 150)) w := by kernel_rfl
theorem directF (w : World) : (Rtype.directlyAssignable 101 101).run Tryd.prog w = .ok true w := by kernel_rfl


theorem valueOfErrno (n : Int) (w : World) : (ReflectliteValue.unpack (.iface 30 (.int .i64 n))).run Tryd.prog w
    = .ok (.agg #[.pointer (some ⟨6, 30, none⟩), .pointer (some ⟨w.heap.size, 0, none⟩), .int .u64 130]) (w.alloc (.cells #[.int .i64 n] 30)) := by kernel_rfl
theorem valueOfFail (e : Addr) (w : World) : (ReflectliteValue.unpack (.iface 101 (.pointer (some e)))).run Tryd.prog w
    = .ok (.agg #[.pointer (some ⟨6, 101, none⟩), .pointer (some ⟨w.heap.size, 0, none⟩), .int .u64 150]) (w.alloc (.cells #[.pointer (some e)] 101)) := by kernel_rfl
theorem assignEE (w : World) : (ReflectliteType.relation "AssignableTo" ReflectliteType.assignableTo #[.agg #[.pointer (some ⟨6, 30, none⟩)], .iface 87 (.agg #[.pointer (some ⟨6, 30, none⟩)])]).run Tryd.prog w = .ok (.bool true) w := by kernel_rfl
theorem assignFF (w : World) : (ReflectliteType.relation "AssignableTo" ReflectliteType.assignableTo #[.agg #[.pointer (some ⟨6, 101, none⟩)], .iface 87 (.agg #[.pointer (some ⟨6, 101, none⟩)])]).run Tryd.prog w = .ok (.bool true) w := by kernel_rfl
theorem assignFE (w : World) : (ReflectliteType.relation "AssignableTo" ReflectliteType.assignableTo #[.agg #[.pointer (some ⟨6, 101, none⟩)], .iface 87 (.agg #[.pointer (some ⟨6, 30, none⟩)])]).run Tryd.prog w = .ok (.bool false) w := by kernel_rfl
theorem assignEF (w : World) : (ReflectliteType.relation "AssignableTo" ReflectliteType.assignableTo #[.agg #[.pointer (some ⟨6, 30, none⟩)], .iface 87 (.agg #[.pointer (some ⟨6, 101, none⟩)])]).run Tryd.prog w = .ok (.bool false) w := by kernel_rfl
theorem methodKind (h : Value) (w : World) : (Go.method 270 87 (.agg #[h]) "Kind").run Tryd.prog w = .ok (102, h) w := by kernel_rfl
theorem methodElem (h : Value) (w : World) : (Go.method 270 87 (.agg #[h]) "Elem").run Tryd.prog w = .ok (110, .agg #[h]) w := by kernel_rfl
theorem methodImplements (h : Value) (w : World) : (Go.method 270 87 (.agg #[h]) "Implements").run Tryd.prog w = .ok (111, .agg #[h]) w := by kernel_rfl
theorem methodAssignableTo (h : Value) (w : World) : (Go.method 270 87 (.agg #[h]) "AssignableTo").run Tryd.prog w = .ok (108, .agg #[h]) w := by kernel_rfl
theorem methodComparable (h : Value) (w : World) : (Go.method 270 87 (.agg #[h]) "Comparable").run Tryd.prog w = .ok (109, .agg #[h]) w := by kernel_rfl
theorem methodUnwrap (a : Addr) (w : World) : (Go.method 270 101 (.pointer (some a)) "Unwrap").run Tryd.prog w = .ok (119, .pointer (some a)) w := by kernel_rfl

theorem assertAsE (n : Int) (w : World) : (Instr.typeAssert (.iface 30 (.int .i64 n)) 25 132 true).run Tryd.prog w = .ok (.tuple #[.nilIface, .bool false]) w := run_typeAssert_lacksB Tryd.underlying132 (by kernel_rfl) (by kernel_rfl) _ _ _
theorem assertAsF (a : Addr) (w : World) : (Instr.typeAssert (.iface 101 (.pointer (some a))) 25 132 true).run Tryd.prog w = .ok (.tuple #[.nilIface, .bool false]) w := run_typeAssert_lacksB Tryd.underlying132 (by kernel_rfl) (by kernel_rfl) _ _ _
theorem assertIsE (n : Int) (w : World) : (Instr.typeAssert (.iface 30 (.int .i64 n)) 25 89 true).run Tryd.prog w = .ok (.tuple #[.nilIface, .bool false]) w := run_typeAssert_lacksB Tryd.underlying89 (by kernel_rfl) (by kernel_rfl) _ _ _
theorem assertIsF (a : Addr) (w : World) : (Instr.typeAssert (.iface 101 (.pointer (some a))) 25 89 true).run Tryd.prog w = .ok (.tuple #[.nilIface, .bool false]) w := run_typeAssert_lacksB Tryd.underlying89 (by kernel_rfl) (by kernel_rfl) _ _ _
theorem assertManyE (n : Int) (w : World) : (Instr.typeAssert (.iface 30 (.int .i64 n)) 25 94 true).run Tryd.prog w = .ok (.tuple #[.nilIface, .bool false]) w := run_typeAssert_lacksB Tryd.underlying94 (by kernel_rfl) (by kernel_rfl) _ _ _
theorem assertManyF (a : Addr) (w : World) : (Instr.typeAssert (.iface 101 (.pointer (some a))) 25 94 true).run Tryd.prog w = .ok (.tuple #[.nilIface, .bool false]) w := run_typeAssert_lacksB Tryd.underlying94 (by kernel_rfl) (by kernel_rfl) _ _ _
theorem assertOneE (n : Int) (w : World) : (Instr.typeAssert (.iface 30 (.int .i64 n)) 25 92 true).run Tryd.prog w = .ok (.tuple #[.nilIface, .bool false]) w := run_typeAssert_lacksB Tryd.underlying92 (by kernel_rfl) (by kernel_rfl) _ _ _
theorem assertOneF (a : Addr) (w : World) : (Instr.typeAssert (.iface 101 (.pointer (some a))) 25 92 true).run Tryd.prog w = .ok (.tuple #[.iface 101 (.pointer (some a)), .bool true]) w := by kernel_rfl
end Go.Proofs.YtfaieldafoeaiaaDoor

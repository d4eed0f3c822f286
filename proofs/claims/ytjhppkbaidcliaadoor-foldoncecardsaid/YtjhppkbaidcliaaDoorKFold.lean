/-
  The document's Fold of layer 5, by its contract.
-/
import Derived.Test.YtjhppkbaidcliaaDoorKMap
import Derived.Test.YtjhppkbaidcliaaDoorKComp
import Derived.Laws.AppendOwnNone
namespace Go.Proofs.YtjhppkbaidcliaaDoor
open Go.RowKit

/-- 'append(s, x...)', both of them rows of runes that the call made. -/
theorem append_made {ops : Array Oper} {rest : List Oper} {o : Oper} {a : Act} {Q : Exit → Act → World → Prop} {W w0 w : World} (hgd : o.guard = none) (s x : Operand)
    (ho : o.op = .call { callee := .builtin .append, args := #[s, x], argTypes := #[23, 23] })
    (v vx : Value) (l lx : List Int) (hs : a.eval s = v) (hx : a.eval x = vx) (h1 : Made W w v l) (h2 : Made w0 w vx lx) (hl : l.length + lx.length ≤ 4000)
    (h : ∀ v' w', Made W w' v' (l ++ lx) → wpList Tryd.prog ops Q rest (a.put o.dst v') w') : wpList Tryd.prog ops Q (o :: rest) a w := by
  obtain ⟨i0, hi, hz0, hz1, hz2⟩ := info_parts Tryd.infoR
  have h2' := h2.1
  rcases h2.1.2 with ⟨rfl, h0⟩ | ⟨g, cap, cur, rfl, _⟩
  · obtain rfl := List.eq_nil_of_length_eq_zero h0
    refine wpList_append_own_none hgd s x _ ho W.heap.size 21 i0 1 Tryd.underlying23 hi v _ _ hs h1.1 hx (h v w (by rw [List.append_nil]; exact h1))
  · refine wpList_append_own w hgd s x _ ho W.heap.size 21 i0 _ 1 4 Tryd.underlying23 hi hz0 hz1 hz2 rfl (by decide) v _ _ hs h1.1 ⟨g, 0, none⟩ lx.length cap (lx.map (Value.int .i32)) hx (by simp) (fun j u hu => ?_) (fun u hu => ?_) (by simp only [maxLen]; omega) (by omega) h1.2.size (fun v' w' hown hg _ => h v' w' ⟨?_, ?_⟩)
    · rw [add_at, Nat.zero_add, h2'.cellAt (g := g) j (by have := (List.getElem?_eq_some_iff.1 hu).1; simpa using this)]
      exact hu
    · obtain ⟨c, _, rfl⟩ := List.mem_map.1 hu
      rfl
    · show w'.ownsRow W.heap.size 21 1 v' _ _
      rw [List.length_append, List.map_append]; exact hown
    · exact h1.2.grown hg h1.2.size (own_ge h1.1)

theorem mapAll_bad {l : List Int} {k : Nat} (h : k < l.length) (hb : Barred l[k]) : mapAll l = none := by
  have e : l = l.take k ++ l[k] :: l.drop (k + 1) := by rw [← List.drop_eq_getElem_cons h, List.take_append_drop]
  rw [e, mapAll_append]
  have : mapAll (l[k] :: l.drop (k + 1)) = none := by unfold mapAll; rw [if_pos hb]
  rw [this]
  cases mapAll (l.take k) <;> rfl
theorem mapAll_step {l m : List Int} {k : Nat} (h : k < l.length) (hb : ¬ Barred l[k]) (hm : mapAll (l.take k) = some m) : mapAll (l.take (k + 1)) = some (m ++ mapTo l[k]) := by
  rw [List.take_succ_eq_append_getElem h, mapAll_append, hm]
  simp [mapAll, hb]
theorem mapTo_length (c : Int) : (mapTo c).length ≤ 2 := by
  unfold mapTo down
  repeat' split
  all_goals simp
theorem comp_length : ∀ (n : Nat) (l : List Int), l.length ≤ n → (comp l).length ≤ l.length := by
  intro n
  induction n with
  | zero => intro l h; rw [List.eq_nil_of_length_eq_zero (l := l) (by omega)]; exact Nat.le_refl _
  | succ n ih =>
    intro l h
    match l, h with
    | [], _ => exact Nat.le_refl _
    | [a], _ => exact Nat.le_refl _
    | a :: b :: t, h =>
      simp only [List.length_cons] at h
      by_cases e : madeOf a b = 0
      · rw [comp_keep e]
        have := ih (b :: t) (by simp only [List.length_cons]; omega)
        simp only [List.length_cons] at this ⊢
        omega
      · rw [comp_pair e]
        have := ih t (by omega)
        simp only [List.length_cons]
        omega
theorem mapAll_length {l m : List Int} (h : mapAll l = some m) : m.length ≤ 2 * l.length := by
  induction l generalizing m with
  | nil => simp only [mapAll, Option.some.injEq] at h; subst h; simp
  | cons c l ih =>
    unfold mapAll at h
    split at h
    · cases h
    · obtain ⟨k, hk, rfl⟩ := Option.map_eq_some_iff.1 h
      have h1 := ih hk
      have h2 := mapTo_length c
      rw [List.length_append, List.length_cons]
      omega

def FoldTwo (o : Option (List Int)) (w : World) (e : Ending) (w' : World) : Prop := match o with
  | none => e = .returned (.tuple #[.slice none 0 0, .int .i64 2]) ∧ Below w.heap.size w w'
  | some l => ∃ v, e = .returned (.tuple #[v, .int .i64 0]) ∧ Made w w' v l
theorem Made.lower5 {w w1 w' : World} {v : Value} {l : List Int} (h : Made w1 w' v l) (hb : Below w.heap.size w w1) : Made w w' v l := by
  obtain ⟨⟨h1, h2⟩, h3⟩ := h
  refine ⟨⟨h1, ?_⟩, hb.trans (h3.mono hb.size)⟩
  have := hb.size
  rcases h2 with h2 | ⟨g, cap, cur, rfl, hg, hh, r⟩
  · exact .inl h2
  · exact .inr ⟨g, cap, cur, rfl, by omega, hh, r⟩

set_option maxHeartbeats 1000000 in
set_option maxRecDepth 100000 in
theorem refFold_any (A : Option Addr) (l : List Int) (cap : Nat) (w : World) (hr : Runes w A l) (hl : l.length ≤ 900) :
    Calls Tryd.prog 13 #[.slice A l.length cap] w (FoldTwo (foldL l) w) := by
  have HR := Lib.hid hr
  clear hr
  go_enter Tryd.func13, Tryd.ntmps13
  go_wp2
  go_loopw [4, 5] (fun v i wr => ∃ (k : Nat) (m : List Int), k ≤ l.length ∧ i = .int .i64 k ∧ Made w wr v m ∧ mapAll (l.take k) = some m) (fun _ i _ => l.length - (intOf i).toNat)
  case atStart => exact ⟨0, [], Nat.zero_le _, rfl, ⟨World.ownsRow_nil _ _ _ _, Below.refl _ _⟩, rfl⟩
  case round =>
    obtain ⟨k, m, hk, rfl, hm, hmm⟩ := hrel
    have HM := Lib.hid hm
    have HMm := Lib.hid hmm
    have hml : m.length ≤ 1800 := by
      have := mapAll_length hmm
      rw [List.length_take] at this
      omega
    clear hmm
    by_cases hlt : k < l.length
    · obtain ⟨b, off, rfl, _, hc⟩ := (HR.out.below hm.2) k l[k] (List.getElem?_eq_getElem hlt)
      clear hm
      by_cases hb : Barred l[k]
      · have HN : Hid (foldL l = none) := by
          show foldL l = none
          unfold foldL
          rw [mapAll_bad hlt hb]; rfl
        obtain ⟨x, hx⟩ : ∃ x, l[k] = x := ⟨_, rfl⟩
        rw [hx] at hc hb
        have HBd := Lib.hid hb
        clear hx hb
        go_wp2_with (go_at_call 10; refine (map_bad _ _ HBd.out).mono ?_; rintro e w1 ⟨rfl, hb1⟩; have HB1 := Lib.hid (HM.out.carry hb1); clear hb1)
        go_ret2
        rw [HN.out]
        exact ⟨rfl, HB1.out.2⟩
      · have HSt := Lib.hid (mapAll_step hlt hb HMm.out)
        have hml2 := mapTo_length l[k]
        obtain ⟨x, hx⟩ : ∃ x, l[k] = x := ⟨_, rfl⟩
        rw [hx] at hc hb HSt hml2
        have HBd := Lib.hid hb
        have HLe := Lib.hid hml2
        clear hx hb hml2
        go_wp2_with (first
          | (go_at_call 10; refine (map_good _ _ HBd.out).mono ?_; rintro e w1 ⟨v1, rfl, hm1⟩; have HM1 := Lib.hid hm1; have HMc := Lib.hid (HM.out.carry hm1.2); clear hm1)
          | (at_builtin
             refine append_made rfl (.tmp 24) (.tmp 25) rfl _ v1 m (mapTo x) rfl rfl HMc.out HM1.out ?ha ?_
             case ha => have := HLe.out; omega
             intro v2 w2 hm2
             have HM2 := Lib.hid hm2
             clear hm2))
        go_roundw
        case rel => exact ⟨k + 1, m ++ mapTo x, hlt, by go_num, HM2.out, HSt.out⟩
        case measure => simp [intOf]; omega
    · have HS : Hid (foldL l = some (comp m)) := by
        show foldL l = some (comp m)
        have := HMm.out
        rw [List.take_of_length_le (by omega)] at this
        unfold foldL
        rw [this]; rfl
      obtain ⟨A2, c2, e2, hr2⟩ := hm.runes
      subst e2
      have HR2 := Lib.hid hr2
      clear hm hr2
      go_wp2_with (go_at_call 16; refine (compose_any A2 m c2 _ HR2.out (by omega)).mono ?_; rintro e w3 ⟨v3, rfl, hm3⟩; have HM3 := Lib.hid (hm3.lower5 HM.out.2); clear hm3)
      go_ret2
      rw [HS.out]
      exact ⟨_, rfl, HM3.out⟩
end Go.Proofs.YtjhppkbaidcliaaDoor

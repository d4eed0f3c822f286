/-
  FoldCapitals, walked over the program's contracts: whatever the input, true.
-/
import Derived.Test.YtjhppkbaidcliaaDoorKCon
namespace Go.Proofs.YtjhppkbaidcliaaDoor
open Go.RowKit

/-- Two rows of runes of the call's own, apart from each other. -/
def Two (B : Nat) (w : World) (v1 v2 : Value) (l1 l2 : List Int) : Prop := RowN B w v1 l1 ∧ RowN B w v2 l2 ∧ (∀ g, v1.ownBlock = some g → v2.ownBlock ≠ some g) ∧ B ≤ w.heap.size
theorem Two.symm {B : Nat} {w : World} {v1 v2 : Value} {l1 l2 : List Int} (h : Two B w v1 v2 l1 l2) : Two B w v2 v1 l2 l1 :=
  ⟨h.2.1, h.1, fun g h2 h1 => h.2.2.1 g h1 h2, h.2.2.2⟩
theorem append_two {ops : Array Oper} {rest : List Oper} {o : Oper} {a : Act} {Q : Exit → Act → World → Prop} {w : World} (hgd : o.guard = none) (s x : Operand)
    (ho : o.op = .call { callee := .builtin .append, args := #[s, x], argTypes := #[23, 23] })
    (B : Nat) (v1 v2 : Value) (l1 l2 : List Int) (c : Int) (hs : a.eval s = v1) (hx : a.eval x = .slice (some ⟨w.heap.size, 0, none⟩) 1 1) (h : Two B w v1 v2 l1 l2) (hl : l1.length ≤ 4000)
    (k : ∀ v' w', Two B w' v' v2 (l1 ++ [c]) l2 → Below B w w' → wpList Tryd.prog ops Q rest (a.put o.dst v') w') : wpList Tryd.prog ops Q (o :: rest) a (w.alloc (.cells #[.int .i32 c] 21)) := by
  obtain ⟨i0, hi, hz0, hz1, hz2⟩ := info_parts Tryd.infoR
  obtain ⟨h1, h2, hd, hB⟩ := h
  have hal : Below B w (w.alloc (.cells #[.int .i32 c] 21)) := (Below.refl _ _).alloc hB _
  refine wpList_append_own_at _ hgd s x _ ho B 21 i0 _ 1 4 Tryd.underlying23 hi hz0 hz1 hz2 rfl (by decide) v1 _ _ hs (World.ownsRow.alloc h1 _) ⟨w.heap.size, 0, none⟩ 1 1 [.int .i32 c] hx rfl (cell_one_new _ _ _) (by simp [Value.oneCell']) (by simp only [maxLen]; omega) (by omega) (by simp; omega) (fun v' w' hown hg _ hat => k v' w' ⟨?_, ?_, ?_, ?_⟩ ?_)
  · show w'.ownsRow B 21 1 v' _ _
    rw [List.length_append, List.map_append]; exact hown
  · refine World.ownsRow.kept (World.ownsRow.alloc h2 _) hg ?_
    by_cases h0 : v2.ownBlock = none
    · exact .inl h0
    · right
      intro e
      cases h3 : v2.ownBlock with
      | none => exact h0 h3
      | some g => exact hd g (e ▸ h3) h3
  · intro g hg1 hg2
    rcases hat with e | e
    · exact hd g (e ▸ hg1) hg2
    · rw [e] at hg1
      have := (World.ownsRow.lt h2 g hg2).2
      simp at hg1
      omega
  · have := hg.size
    simp at this
    omega
  · exact hal.grown hg (by simp; omega) (own_ge h1)
def asc (l : List UInt8) : List Int := l.map fun b => ((b.toNat % 128 : Nat) : Int)
theorem asc_take (l : List UInt8) (k : Nat) (h : k < l.length) : asc (l.take (k + 1)) = asc (l.take k) ++ [((l[k].toNat % 128 : Nat) : Int)] := by
  rw [List.take_succ_eq_append_getElem h]
  simp only [asc, List.map_append, List.map_cons, List.map_nil]
theorem asc_in (l : List UInt8) : ∀ x ∈ asc l, 0 ≤ x ∧ x < 128 := by
  intro x hx
  obtain ⟨b, _, rfl⟩ := List.mem_map.1 hx
  have := Nat.mod_lt b.toNat (show 0 < 128 by decide)
  omega
theorem up_in (l : List UInt8) : ∀ x ∈ (asc l).map upc, 0 ≤ x ∧ x < 128 := by
  intro x hx
  obtain ⟨c, hc, rfl⟩ := List.mem_map.1 hx
  have := asc_in l c hc
  unfold upc
  split <;> omega
theorem fold_up (l : List UInt8) : foldL ((asc l).map upc) = some ((asc l).map lowc) := by
  rw [fold_small (up_in l), List.map_map]
  congr 1
  exact List.map_congr_left fun c _ => lowc_upc c
theorem RowN.runes {B : Nat} {w : World} {v : Value} {l : List Int} (h : RowN B w v l) : ∃ A c, v = .slice A l.length c ∧ Runes w A l ∧ l.length ≤ c := by
  have h' : w.ownsRow B 21 1 v l.length (l.map (Value.int .i32)) := h
  rcases h.2 with ⟨rfl, h0⟩ | ⟨g, cap, cur, rfl, hh⟩
  · obtain rfl := List.eq_nil_of_length_eq_zero h0
    exact ⟨none, 0, rfl, fun i s hs => by simp at hs, Nat.le_refl _⟩
  · refine ⟨_, _, rfl, fun i s hs => ?_, hh.2.2.1⟩
    have hi : i < l.length := (List.getElem?_eq_some_iff.1 hs).1
    have hc := h'.cellAt (g := g) i (by simpa using hi)
    refine ⟨g, 0, rfl, (Array.getElem?_eq_some_iff.1 hh.2.1).1, ?_⟩
    rw [Nat.zero_add, hc, List.getElem?_map, hs]; rfl

theorem asc_rng (l : List UInt8) : (∀ c ∈ asc l, R32 c) ∧ (∀ c ∈ (asc l).map upc, R32 c) := by
  have h : ∀ c ∈ asc l, 0 ≤ c ∧ c < 128 := by
    intro c hc
    unfold asc at hc
    obtain ⟨u, _, rfl⟩ := List.mem_map.1 hc
    omega
  refine ⟨fun c hc => ?_, fun c hc => ?_⟩
  · have := h c hc
    unfold R32; omega
  · obtain ⟨x, hx, rfl⟩ := List.mem_map.1 hc
    have := h x hx
    unfold R32 upc
    split <;> omega

set_option maxHeartbeats 1000000 in
set_option maxRecDepth 100000 in
theorem law_capitals (s : ByteArray) (w : World) (hs : s.size ≤ maxLen) (C : FoldC w) :
    Calls Tryd.prog 6 #[.string s] w (Yes w) := by
  unfold maxLen at hs
  have HC := Lib.hid C
  clear C
  by_cases h : s.size ≤ 100
  · have hsl : s.data.toList.length = s.size := by simp
    have HSl := Lib.hid hsl
    clear hsl
    go_enter Tryd.func6, Tryd.ntmps6
    go_wp2_with (go_at_call 8; refine (awake_any HC.out).mono ?_; rintro e w1 ⟨rfl, hb⟩; have HB := Lib.hid hb; clear hb)
    go_loopw [4, 5, 6] (fun va vb i wr => ∃ k : Nat, k ≤ s.size ∧ i = .int .i64 k ∧ Two w1.heap.size wr va vb (asc (s.data.toList.take k)) ((asc (s.data.toList.take k)).map upc) ∧ Below w1.heap.size w1 wr) (fun _ _ i _ => s.size - (intOf i).toNat)
    case atStart => exact ⟨0, Nat.zero_le _, rfl, ⟨World.ownsRow_nil _ _ _ _, World.ownsRow_nil _ _ _ _, fun g hg => by simp [Value.ownBlock] at hg, Nat.le_refl _⟩, Below.refl _ _⟩
    case round =>
      obtain ⟨k, hk, rfl, ht, hb⟩ := hrel
      have HT := Lib.hid ht
      have HW := Lib.hid hb
      have hlen : (asc (s.data.toList.take k)).length = k := by unfold asc; rw [List.length_map, List.length_take, HSl.out]; omega
      by_cases hlt : k < s.size
      · have hl : k < s.data.toList.length := by rw [HSl.out]; exact hlt
        have HTk := Lib.hid (asc_take s.data.toList k hl)
        have hu := (s[k]'hlt).toNat_lt
        obtain ⟨x, hx⟩ : ∃ x : Int, ((s[k]'hlt).toNat : Int) % 128 = x := ⟨_, rfl⟩
        have hx2 : (((s.data.toList[k]'hl).toNat % 128 : Nat) : Int) = x := by rw [← hx]; simp; rfl
        rw [hx2] at HTk
        have hx0 : 0 ≤ x := by omega
        have hx1 : x < 128 := by omega
        obtain ⟨L, hL⟩ : ∃ L, asc (s.data.toList.take k) = L := ⟨_, rfl⟩
        rw [hL] at HT hlen HTk
        clear hL hx2 ht hb
        have HLen := Lib.hid hlen
        clear hlen
        by_cases hup : 97 ≤ x ∧ x ≤ 122
        · have HU : Hid (upc x = x - 32) := by show upc x = x - 32; unfold upc; rw [if_pos hup]
          obtain ⟨hu1, hu2⟩ := hup
          go_wp2_with (first
            | (at_builtin
               refine append_two rfl (.tmp 28) (.tmp 30) rfl w1.heap.size _ u5 L (L.map upc) x rfl rfl HT.out ?ha ?_
               case ha => rw [HLen.out]; omega
               intro v1 w2 ht1 hb1
               have HT1 := Lib.hid ht1
               have HW1 := Lib.hid (HW.out.trans hb1)
               clear ht1 hb1)
            | (at_builtin
               refine append_two rfl (.tmp 40) (.tmp 42) rfl w1.heap.size _ v1 (L.map upc) (L ++ [x]) (x - 32) rfl rfl HT1.out.symm ?hd ?_
               case hd => rw [List.length_map, HLen.out]; omega
               intro v2 w3 ht2 hb2
               have HT2 := Lib.hid ht2.symm
               have HW2 := Lib.hid (HW1.out.trans hb2)
               clear ht2 hb2))
          go_roundw
          case rel => exact ⟨k + 1, hlt, by go_num, by rw [HTk.out, List.map_append, List.map_cons, List.map_nil, HU.out]; exact HT2.out, HW2.out⟩
          case measure => simp [intOf]; omega
        · have HU : Hid (upc x = x) := by show upc x = x; unfold upc; rw [if_neg hup]
          go_wp2_with (first
            | (at_builtin
               refine append_two rfl (.tmp 28) (.tmp 30) rfl w1.heap.size _ u5 L (L.map upc) x rfl rfl HT.out ?ha ?_
               case ha => rw [HLen.out]; omega
               intro v1 w2 ht1 hb1
               have HT1 := Lib.hid ht1
               have HW1 := Lib.hid (HW.out.trans hb1)
               clear ht1 hb1)
            | (at_builtin
               refine append_two rfl (.tmp 40) (.tmp 42) rfl w1.heap.size _ v1 (L.map upc) (L ++ [x]) x rfl rfl HT1.out.symm ?hd ?_
               case hd => rw [List.length_map, HLen.out]; omega
               intro v2 w3 ht2 hb2
               have HT2 := Lib.hid ht2.symm
               have HW2 := Lib.hid (HW1.out.trans hb2)
               clear ht2 hb2))
          all_goals
            go_roundw
            case rel => exact ⟨k + 1, hlt, by go_num, by rw [HTk.out, List.map_append, List.map_cons, List.map_nil, HU.out]; exact HT2.out, HW2.out⟩
            case measure => simp [intOf]; omega
      · have htk : s.data.toList.take k = s.data.toList := List.take_of_length_le (by rw [HSl.out]; omega)
        rw [htk] at ht hlen
        obtain ⟨A1, c1, e1, hr1, hc1⟩ := ht.1.runes
        obtain ⟨A2, c2, e2, hr2, hc2⟩ := ht.2.1.runes
        have HF1 := Lib.hid (fold_small (asc_in s.data.toList))
        have HF2 := Lib.hid (fold_up s.data.toList)
        obtain ⟨HRg1, HRg2⟩ : Hid (∀ c ∈ asc s.data.toList, R32 c) ∧ Hid (∀ c ∈ (asc s.data.toList).map upc, R32 c) := asc_rng s.data.toList
        obtain ⟨L, hL⟩ : ∃ L, asc s.data.toList = L := ⟨_, rfl⟩
        rw [hL] at HRg1 HRg2
        rw [hL] at e1 e2 hr1 hr2 hc1 hc2 HF1 HF2 hlen
        have hl500 : L.length ≤ 500 := by omega
        have hl501 : (L.map upc).length ≤ 500 := by rw [List.length_map]; omega
        obtain ⟨U, hU⟩ : ∃ U, L.map upc = U := ⟨_, rfl⟩
        rw [hU] at HRg2
        rw [hU] at e2 hr2 hc2 HF2 hl501
        obtain ⟨R, hR⟩ : ∃ R, L.map lowc = R := ⟨_, rfl⟩
        rw [hR] at HF1 HF2
        have hRl : R.length = L.length := by rw [← hR, List.length_map]
        subst e1
        subst e2
        have HR1 := Lib.hid hr1
        have HR2 := Lib.hid hr2
        have HB2 := Lib.hid (bnext HB.out hb)
        have hRn : ((R.length : Int) == (L.length : Int)) = true := by rw [hRl]; simp
        have hR500 : R.length ≤ 500 := by omega
        clear ht hb hr1 hr2 htk hL hU hR hRl hlen
        go_wp2_with (first
          | (go_at_call 12; (with_reducible refine (HC.out.fold A1 L c1 _ HB2.out HRg1.out HR1.out hl500 hc1).mono ?_); rw [HF1.out]; rintro e w2 ⟨A3, c3, rfl, hr3, _, hb⟩; have HR3 := Lib.hid hr3; have HR2 := Lib.hid (HR2.out.below hb); have HB2 := Lib.hid (bnext HB2.out hb); clear hb hr3)
          | (go_at_call 12; (with_reducible refine (HC.out.fold A2 U c2 _ HB2.out HRg2.out HR2.out hl501 hc2).mono ?_); rw [HF2.out]; rintro e w3 ⟨A4, c4, rfl, hr4, _, hb⟩; have HR4 := Lib.hid hr4; have HR3 := Lib.hid (HR3.out.below hb); have HB2 := Lib.hid (bnext HB2.out hb); clear hb hr4)
          | (go_at_call 11; refine (same_yes A3 A4 R R R.length R.length c3 c4 _ rfl rfl HR3.out HR4.out (by omega) rfl).mono ?_; rintro e w4 ⟨rfl, hb⟩; have HB2 := Lib.hid (bnext HB2.out hb); clear hb))
        go_ret
        exact ⟨rfl, HB2.out⟩
  · go_enter Tryd.func6, Tryd.ntmps6
    go_wp2_with (go_at_call 8; refine (awake_any HC.out).mono ?_; rintro e w1 ⟨rfl, hb1⟩)
    go_ret
    exact ⟨rfl, hb1⟩
end Go.Proofs.YtjhppkbaidcliaaDoor

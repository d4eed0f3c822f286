/-
  FoldJoins, walked over the program's contracts: whatever the input, true.
-/
import Derived.Test.YtjhppkbaidcliaaDoorKLawsB
import Derived.BigFrame
namespace Go.Proofs.YtjhppkbaidcliaaDoor
open Go.RowKit

/-- 'append(s, x...)' behind a guard that says yes: s a row of the call's own, x any runes. -/
theorem append_from_g {ops : Array Oper} {rest : List Oper} {o : Oper} {a : Act} {Q : Exit → Act → World → Prop} {w : World} (hgd : Region.wanted o (yielded ops a.tmps) = true) (s x : Operand)
    (ho : o.op = .call { callee := .builtin .append, args := #[s, x], argTypes := #[23, 23] })
    (B : Nat) (v : Value) (l : List Int) (X : Option Addr) (m c : Nat) (lx : List Int) (hs : a.eval s = v) (hx : a.eval x = .slice X m c) (h1 : RowN B w v l) (h2 : Runes w X lx) (hm : m = lx.length) (hc : X = none → c = 0)
    (hl : l.length + lx.length ≤ 4000) (hB : B ≤ w.heap.size)
    (h : ∀ v' w', RowN B w' v' (l ++ lx) → Below B w w' → wpList Tryd.prog ops Q rest (a.put o.dst v') w') : wpList Tryd.prog ops Q (o :: rest) a w := by
  obtain ⟨i0, hi, hz0, hz1, hz2⟩ := info_parts Tryd.infoR
  subst hm
  cases X with
  | none =>
    cases lx with
    | cons y lx => obtain ⟨b, off, e, _⟩ := h2 0 y rfl; cases e
    | nil =>
      rw [hc rfl] at hx
      have hrun := run_append_owned_none (P := Tryd.prog) (w := w) B 23 o.type 21 i0 1 Tryd.underlying23 hi v _ _ h1
      refine BigFrame.wpList_want hgd fun K hK => ?_
      unfold Oper.wp
      simp [execOp, ho, resolve, invoke, builtin, hs, hx, hrun, Result.andThen]
      exact hK _ _ (h v w (by rw [List.append_nil]; exact h1) (Below.refl _ _))
  | some ad =>
    refine BigFrame.wpList_want hgd fun K hK => wp_append_own w s x _ ho B 21 i0 _ 1 4 Tryd.underlying23 hi hz0 hz1 hz2 rfl (by decide) v _ _ hs h1 ad lx.length c (lx.map (Value.int .i32)) hx (by simp) (fun j u hu => ?_) (fun u hu => ?_) (by simp only [maxLen]; omega) (by omega) hB (fun v' w' hown hg _ => hK _ _ (h v' w' ?_ ?_))
    · rw [List.getElem?_map] at hu
      obtain ⟨y, hy, rfl⟩ := Option.map_eq_some_iff.1 hu
      obtain ⟨b, off, e, _, hcell⟩ := h2 j y hy
      cases e
      rw [add_at, hcell]
    · obtain ⟨y, _, rfl⟩ := List.mem_map.1 hu
      rfl
    · show w'.ownsRow B 21 1 v' _ _
      rw [List.length_append, List.map_append]; exact hown
    · exact (Below.refl _ _).grown hg hB (own_ge h1)

set_option maxHeartbeats 2000000 in
set_option maxRecDepth 100000 in
theorem law_joins (A : Option Addr) (a : List Int) (ca : Nat) (B : Option Addr) (b : List Int) (cb : Nat) (w : World) (hra : Runes w A a) (hsa : a.length ≤ maxLen) (hca : a.length ≤ ca ∧ (A = none → ca = 0)) (hrga : ∀ c ∈ a, -2147483648 ≤ c ∧ c < 2147483648)
    (hrb : Runes w B b) (hsb : b.length ≤ maxLen) (hcb : b.length ≤ cb ∧ (B = none → cb = 0)) (hrgb : ∀ c ∈ b, -2147483648 ≤ c ∧ c < 2147483648) (C : FoldC w) :
    Calls Tryd.prog 7 #[.slice A a.length ca, .slice B b.length cb] w (Yes w) := by
  unfold maxLen at hsa hsb
  have HC := Lib.hid C
  have HRa := Lib.hid hra
  have HRb := Lib.hid hrb
  have HCa := Lib.hid hca
  have HCb := Lib.hid hcb
  have HGa : Hid (∀ c ∈ a, R32 c) := hrga
  have HGb : Hid (∀ c ∈ b, R32 c) := hrgb
  have HGab : Hid (∀ c ∈ a ++ b, R32 c) := rng_app hrga hrgb
  clear C hra hrb hca hcb hrga hrgb
  by_cases ha : a.length ≤ 100
  · by_cases hb : b.length ≤ 100
    · have ha5 : a.length ≤ 500 := by omega
      have hb5 : b.length ≤ 500 := by omega
      have hab5 : (a ++ b).length ≤ 500 := by rw [List.length_append]; omega
      cases hfa : foldL a with
      | none =>
        have HN := Lib.hid (fold_none (a := a) (b := b) (.inl hfa))
        have HFa := Lib.hid hfa
        clear hfa
        obtain ⟨ab, hab⟩ : ∃ ab, a ++ b = ab := ⟨_, rfl⟩
        rw [hab] at HN hab5 HGab
        have HAb := Lib.hid hab
        clear hab
        cases hfb : foldL b with
        | none =>
          have HFb := Lib.hid hfb
          clear hfb
          go_enter Tryd.func7, Tryd.ntmps7
          go_wp2_with (first
            | (go_at_call 8; refine (awake_any HC.out).mono ?_; rintro e w1 ⟨rfl, hbb⟩; have HB := Lib.hid hbb; clear hbb)
            | (go_at_call 12; (with_reducible refine (HC.out.fold A a ca _ HB.out HGa.out (HRa.out.below HB.out) ha5 HCa.out.1).mono ?_); rw [HFa.out]; rintro e w2 ⟨cs2, u2, x2, rfl, _, hbb⟩; have HB := Lib.hid (bnext HB.out hbb); clear hbb)
            | (go_at_call 12; (with_reducible refine (HC.out.fold B b cb _ HB.out HGb.out (HRb.out.below HB.out) hb5 HCb.out.1).mono ?_); rw [HFb.out]; rintro e w3 ⟨cs3, u3, x3, rfl, _, hbb⟩; have HB := Lib.hid (bnext HB.out hbb); clear hbb)
            | (at_builtin
               refine append_from rfl (.tmp 33) (.tmp 34) rfl w3.heap.size _ [] A a.length ca a rfl rfl (rowN_new w3) ((HRa.out.below HB.out).below ((Below.refl _ _).alloc (Nat.le_refl _) _)) rfl HCa.out.2 ?q1 ?q2 ?_
               case q1 => simp; omega
               case q2 => simp
               intro v4 w4 hr4 hb4
               have HR4 := Lib.hid hr4
               have HB4 := Lib.hid (((Below.refl w3.heap.size w3).alloc (Nat.le_refl _) _).trans hb4)
               clear hr4 hb4)
            | (at_builtin
               refine append_from rfl (.tmp 35) (.tmp 36) rfl w3.heap.size v4 _ B b.length cb b rfl rfl HR4.out (HRb.out.below (bnext HB.out HB4.out)) rfl HCb.out.2 ?q3 HB4.out.size ?_
               case q3 => simp; omega
               intro v5 w5 hr5 hb5
               rw [List.nil_append, HAb.out] at hr5
               obtain ⟨A5, c5, e5, hrr5, hcc5⟩ := RowN.runes hr5
               subst e5
               have HR5 := Lib.hid hrr5
               have HC5 := Lib.hid hcc5
               have hb35 := HB4.out.trans hb5
               have HB := Lib.hid (bnext HB.out hb35)
               clear hr5 hb5 hrr5 hcc5 hb35)
            | (go_at_call 12; (with_reducible refine (HC.out.fold A5 ab c5 _ HB.out HGab.out HR5.out hab5 HC5.out).mono ?_); rw [HN.out]; rintro e w6 ⟨cs6, u6, x6, rfl, _, hbb⟩; have HB := Lib.hid (bnext HB.out hbb); clear hbb))
          go_ret
          exact ⟨rfl, HB.out⟩
        | some y =>
          have HFb := Lib.hid hfb
          clear hfb
          go_enter Tryd.func7, Tryd.ntmps7
          go_wp2_with (first
            | (go_at_call 8; refine (awake_any HC.out).mono ?_; rintro e w1 ⟨rfl, hbb⟩; have HB := Lib.hid hbb; clear hbb)
            | (go_at_call 12; (with_reducible refine (HC.out.fold A a ca _ HB.out HGa.out (HRa.out.below HB.out) ha5 HCa.out.1).mono ?_); rw [HFa.out]; rintro e w2 ⟨cs2, u2, x2, rfl, _, hbb⟩; have HB := Lib.hid (bnext HB.out hbb); clear hbb)
            | (go_at_call 12; (with_reducible refine (HC.out.fold B b cb _ HB.out HGb.out (HRb.out.below HB.out) hb5 HCb.out.1).mono ?_); rw [HFb.out]; rintro e w3 ⟨A2, c2, rfl, _, _, hbb⟩; have HB := Lib.hid (bnext HB.out hbb); clear hbb)
            | (at_builtin
               refine append_from rfl (.tmp 33) (.tmp 34) rfl w3.heap.size _ [] A a.length ca a rfl rfl (rowN_new w3) ((HRa.out.below HB.out).below ((Below.refl _ _).alloc (Nat.le_refl _) _)) rfl HCa.out.2 ?q1 ?q2 ?_
               case q1 => simp; omega
               case q2 => simp
               intro v4 w4 hr4 hb4
               have HR4 := Lib.hid hr4
               have HB4 := Lib.hid (((Below.refl w3.heap.size w3).alloc (Nat.le_refl _) _).trans hb4)
               clear hr4 hb4)
            | (at_builtin
               refine append_from rfl (.tmp 35) (.tmp 36) rfl w3.heap.size v4 _ B b.length cb b rfl rfl HR4.out (HRb.out.below (bnext HB.out HB4.out)) rfl HCb.out.2 ?q3 HB4.out.size ?_
               case q3 => simp; omega
               intro v5 w5 hr5 hb5
               rw [List.nil_append, HAb.out] at hr5
               obtain ⟨A5, c5, e5, hrr5, hcc5⟩ := RowN.runes hr5
               subst e5
               have HR5 := Lib.hid hrr5
               have HC5 := Lib.hid hcc5
               have hb35 := HB4.out.trans hb5
               have HB := Lib.hid (bnext HB.out hb35)
               clear hr5 hb5 hrr5 hcc5 hb35)
            | (go_at_call 12; (with_reducible refine (HC.out.fold A5 ab c5 _ HB.out HGab.out HR5.out hab5 HC5.out).mono ?_); rw [HN.out]; rintro e w6 ⟨cs6, u6, x6, rfl, _, hbb⟩; have HB := Lib.hid (bnext HB.out hbb); clear hbb))
          go_ret
          exact ⟨rfl, HB.out⟩
      | some x =>
        cases hfb : foldL b with
        | none =>
          have HN := Lib.hid (fold_none (a := a) (b := b) (.inr hfb))
          have HFa := Lib.hid hfa
          have HFb := Lib.hid hfb
          clear hfa hfb
          obtain ⟨ab, hab⟩ : ∃ ab, a ++ b = ab := ⟨_, rfl⟩
          rw [hab] at HN hab5 HGab
          have HAb := Lib.hid hab
          clear hab
          go_enter Tryd.func7, Tryd.ntmps7
          go_wp2_with (first
            | (go_at_call 8; refine (awake_any HC.out).mono ?_; rintro e w1 ⟨rfl, hbb⟩; have HB := Lib.hid hbb; clear hbb)
            | (go_at_call 12; (with_reducible refine (HC.out.fold A a ca _ HB.out HGa.out (HRa.out.below HB.out) ha5 HCa.out.1).mono ?_); rw [HFa.out]; rintro e w2 ⟨A1, c1, rfl, _, _, hbb⟩; have HB := Lib.hid (bnext HB.out hbb); clear hbb)
            | (go_at_call 12; (with_reducible refine (HC.out.fold B b cb _ HB.out HGb.out (HRb.out.below HB.out) hb5 HCb.out.1).mono ?_); rw [HFb.out]; rintro e w3 ⟨cs3, u3, x3, rfl, _, hbb⟩; have HB := Lib.hid (bnext HB.out hbb); clear hbb)
            | (at_builtin
               refine append_from rfl (.tmp 33) (.tmp 34) rfl w3.heap.size _ [] A a.length ca a rfl rfl (rowN_new w3) ((HRa.out.below HB.out).below ((Below.refl _ _).alloc (Nat.le_refl _) _)) rfl HCa.out.2 ?q1 ?q2 ?_
               case q1 => simp; omega
               case q2 => simp
               intro v4 w4 hr4 hb4
               have HR4 := Lib.hid hr4
               have HB4 := Lib.hid (((Below.refl w3.heap.size w3).alloc (Nat.le_refl _) _).trans hb4)
               clear hr4 hb4)
            | (at_builtin
               refine append_from rfl (.tmp 35) (.tmp 36) rfl w3.heap.size v4 _ B b.length cb b rfl rfl HR4.out (HRb.out.below (bnext HB.out HB4.out)) rfl HCb.out.2 ?q3 HB4.out.size ?_
               case q3 => simp; omega
               intro v5 w5 hr5 hb5
               rw [List.nil_append, HAb.out] at hr5
               obtain ⟨A5, c5, e5, hrr5, hcc5⟩ := RowN.runes hr5
               subst e5
               have HR5 := Lib.hid hrr5
               have HC5 := Lib.hid hcc5
               have hb35 := HB4.out.trans hb5
               have HB := Lib.hid (bnext HB.out hb35)
               clear hr5 hb5 hrr5 hcc5 hb35)
            | (go_at_call 12; (with_reducible refine (HC.out.fold A5 ab c5 _ HB.out HGab.out HR5.out hab5 HC5.out).mono ?_); rw [HN.out]; rintro e w6 ⟨cs6, u6, x6, rfl, _, hbb⟩; have HB := Lib.hid (bnext HB.out hbb); clear hbb))
          go_ret
          exact ⟨rfl, HB.out⟩
        | some y =>
          have HJ := Lib.hid (fold_join hfa hfb)
          have hxl : x.length ≤ 200 := by have := fold_length hfa; omega
          have hyl : y.length ≤ 200 := by have := fold_length hfb; omega
          have hxy : (x ++ y).length ≤ 1000 := by rw [List.length_append]; omega
          have HFa := Lib.hid hfa
          have HFb := Lib.hid hfb
          clear hfa hfb
          obtain ⟨z, hz⟩ : ∃ z, comp (x ++ y) = z := ⟨_, rfl⟩
          have hzl : z.length ≤ 400 := by
            have := comp_length _ (x ++ y) (Nat.le_refl _)
            rw [hz, List.length_append] at this
            omega
          have HZ := Lib.hid hz
          rw [hz] at HJ
          clear hz
          obtain ⟨ab, hab⟩ : ∃ ab, a ++ b = ab := ⟨_, rfl⟩
          rw [hab] at HJ hab5 HGab
          have HAb := Lib.hid hab
          obtain ⟨xy, hxyz⟩ : ∃ xy, x ++ y = xy := ⟨_, rfl⟩
          rw [hxyz] at HZ hxy
          have HXy := Lib.hid hxyz
          clear hab hxyz
          go_enter Tryd.func7, Tryd.ntmps7
          go_wp2_with (first
            | (go_at_call 8; refine (awake_any HC.out).mono ?_; rintro e w1 ⟨rfl, hbb⟩; have HB := Lib.hid hbb; clear hbb)
            | (go_at_call 12; (with_reducible refine (HC.out.fold A a ca _ HB.out HGa.out (HRa.out.below HB.out) ha5 HCa.out.1).mono ?_); rw [HFa.out]; rintro e w2 ⟨A1, c1, rfl, hr1, hc1, hbb⟩; have HR1 := Lib.hid hr1; have HC1 := Lib.hid hc1; have HB := Lib.hid (bnext HB.out hbb); clear hbb hr1 hc1)
            | (go_at_call 12; (with_reducible refine (HC.out.fold B b cb _ HB.out HGb.out (HRb.out.below HB.out) hb5 HCb.out.1).mono ?_); rw [HFb.out]; rintro e w3 ⟨A2, c2, rfl, hr2, hc2, hbb⟩; have HR2 := Lib.hid hr2; have HR1 := Lib.hid (HR1.out.below hbb); have HC2 := Lib.hid hc2; have HB := Lib.hid (bnext HB.out hbb); clear hbb hr2 hc2)
            | (at_builtin
               refine append_from rfl (.tmp 33) (.tmp 34) rfl w3.heap.size _ [] A a.length ca a rfl rfl (rowN_new w3) ((HRa.out.below HB.out).below ((Below.refl _ _).alloc (Nat.le_refl _) _)) rfl HCa.out.2 ?q1 ?q2 ?_
               case q1 => simp; omega
               case q2 => simp
               intro v4 w4 hr4 hb4
               have HR4 := Lib.hid hr4
               have HB4 := Lib.hid (((Below.refl w3.heap.size w3).alloc (Nat.le_refl _) _).trans hb4)
               clear hr4 hb4)
            | (at_builtin
               refine append_from rfl (.tmp 35) (.tmp 36) rfl w3.heap.size v4 _ B b.length cb b rfl rfl HR4.out (HRb.out.below (bnext HB.out HB4.out)) rfl HCb.out.2 ?q3 HB4.out.size ?_
               case q3 => simp; omega
               intro v5 w5 hr5 hb5
               rw [List.nil_append, HAb.out] at hr5
               obtain ⟨A5, c5, e5, hrr5, hcc5⟩ := RowN.runes hr5
               subst e5
               have HR5 := Lib.hid hrr5
               have HC5 := Lib.hid hcc5
               have hb35 := HB4.out.trans hb5
               have HR1 := Lib.hid (HR1.out.below hb35)
               have HR2 := Lib.hid (HR2.out.below hb35)
               have HB := Lib.hid (bnext HB.out hb35)
               clear hr5 hb5 hrr5 hcc5 hb35)
            | (go_at_call 12; (with_reducible refine (HC.out.fold A5 ab c5 _ HB.out HGab.out HR5.out hab5 HC5.out).mono ?_); rw [HJ.out]; rintro e w6 ⟨A6, c6, rfl, hr6, _, hbb⟩; have HR6 := Lib.hid hr6; have HR1 := Lib.hid (HR1.out.below hbb); have HR2 := Lib.hid (HR2.out.below hbb); have HB := Lib.hid (bnext HB.out hbb); clear hbb hr6)
            | (at_builtin
               refine append_from_g (by rfl) (.tmp 64) (.tmp 65) rfl w6.heap.size _ [] A1 x.length c1 x rfl rfl (rowN_new w6) (HR1.out.below ((Below.refl _ _).alloc (Nat.le_refl _) _)) rfl HC1.out.2 ?q4 ?q5 ?_
               case q4 => simp; omega
               case q5 => simp
               intro v7 w7 hr7 hb7
               have HR7 := Lib.hid hr7
               have HB7 := Lib.hid (((Below.refl w6.heap.size w6).alloc (Nat.le_refl _) _).trans hb7)
               clear hr7 hb7)
            | (at_builtin
               refine append_from_g (by rfl) (.tmp 66) (.tmp 67) rfl w6.heap.size v7 _ A2 y.length c2 y rfl rfl HR7.out (HR2.out.below HB7.out) rfl HC2.out.2 ?q6 HB7.out.size ?_
               case q6 => simp; omega
               intro v8 w8 hr8 hb8
               rw [List.nil_append, HXy.out] at hr8
               obtain ⟨A8, c8, e8, hrr8, hcc8⟩ := RowN.runes hr8
               subst e8
               have HR8 := Lib.hid hrr8
               have HC8 := Lib.hid hcc8
               have hb68 := HB7.out.trans hb8
               have HR6 := Lib.hid (HR6.out.below hb68)
               have HB := Lib.hid (bnext HB.out hb68)
               clear hr8 hb8 hrr8 hcc8 hb68)
            | (go_at_call 15; refine (HC.out.comp A8 xy c8 _ HB.out HR8.out hxy HC8.out).mono ?_; rw [HZ.out]; rintro e w9 ⟨A9, c9, rfl, hr9, _, hbb⟩; have HR9 := Lib.hid hr9; have HR6 := Lib.hid (HR6.out.below hbb); have HB := Lib.hid (bnext HB.out hbb); clear hbb hr9)
            | (go_at_call 11; refine (same_yes A6 A9 z z z.length z.length c6 c9 _ rfl rfl HR6.out HR9.out (by omega) rfl).mono ?_; rintro e w10 ⟨rfl, hbb⟩; have HB := Lib.hid (bnext HB.out hbb); clear hbb))
          go_ret
          exact ⟨rfl, HB.out⟩
    · go_enter Tryd.func7, Tryd.ntmps7
      go_wp2_with (go_at_call 8; refine (awake_any HC.out).mono ?_; rintro e w1 ⟨rfl, hb1⟩)
      all_goals
        go_ret
        exact ⟨rfl, hb1⟩
  · go_enter Tryd.func7, Tryd.ntmps7
    go_wp2_with (go_at_call 8; refine (awake_any HC.out).mono ?_; rintro e w1 ⟨rfl, hb1⟩)
    all_goals
      go_ret
      exact ⟨rfl, hb1⟩
end Go.Proofs.YtjhppkbaidcliaaDoor

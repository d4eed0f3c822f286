/-
  PROVED: the law gatepostlaw08.IpsixQuads: four numbers stand for the last two pieces. For every input that can be read; no condition beyond the card's own (the variables of the library that are listed start as the program's text lays them: the tie is given).
-/
import Derived.SevenTiedAt
import Derived.Test.YtfodkkdggajjaaaDoorG7
import Derived.Test.YtfodkkdggajjaaaDoorG6
import Derived.Test.YtfodkkdggajjaaaDoorCards
import Derived.Test.YtfodkkdggajjaaaDoorTie
namespace Go.Proofs.YtfodkkdggajjaaaDoor
open Go.ChangeShapes Go.WideShapes Go.ChangeAt Go.RowKit
open Go.ChangeMaps (open_string shut_string)

set_option maxRecDepth 100000 in
theorem ipsixQuads_lifted (os : Os) (started : os.Started) (H : Type) (enc : TypeId × Value → H) :
    ReturnsInHanded {} Tryd.checked os 6 .any (fun w args => (Rows.ipsixQuadsSpec.pre enc Tryd.prog Tryd.f6 [] false w args ∧ laidMetH Tryd.prog laidPlain8 w) ∧ sizedMet enc Tryd.prog Tryd.f6 (OpenSpec.ofChange Rows.ipsixQuadsSpec) false w args)
      (Rows.ipsixQuadsSpec.post enc Tryd.prog Tryd.f6 false true false false) := by
  refine change_shaped (C := Tryd.checked) (X := fun w _ => laidMetH Tryd.prog laidPlain8 w) (fun _ _ _ hh h => h.of_heap hh) Tryd.own started (by kernel_rfl) Tryd.func6
    (ChangeSpec.witness_at (enc := enc) (C := Tryd.checked) (os := os) (X := fun w _ => laidMetH Tryd.prog laidPlain8 w) false (plainWorld8 os) #[.agg #[.int .u16 0, .int .u16 0, .int .u16 0, .int .u16 0, .int .u16 0, .int .u16 0, .int .u16 0, .int .u16 0], .agg #[.int .u8 0, .int .u8 0, .int .u8 0, .int .u8 0]] 8 (World.laidAll_os _ _ _) (by kernel_rfl) (by kernel_rfl) (by kernel_rfl) (by kernel_rfl) (by kernel_rfl) (plainWorld8_met os _)) ?_
  intro W base args ds gs before hval0 hW hL hSh
  have hval : ∀ (j : Nat) t v, Tryd.f6.params[j]? = some t → args[j]? = some v → Value.okWide Tryd.prog W .any base t v := hval0
  have hW' := hW
  obtain ⟨p, q, hA0, hV, rfl, hfz, hnd⟩ := hW
  have hA : DataW.TrodAll enc Tryd.prog W 0 (fun _ => true) true Tryd.f6.params.toList args.toList ds p := hA0
  rw [Tryd.params6] at hA hval
  obtain ⟨v0, vs0, d0, ds0, p0, q0, hargs, rfl, rfl, h0, r0⟩ := trodAll_cons hA
  obtain ⟨v1, vs1, d1, ds1, p1, q1, rfl, rfl, rfl, h1, r1⟩ := trodAll_cons r0
  obtain ⟨rfl, rfl, rfl⟩ := trodAll_nil r1
  obtain rfl : args = #[v0, v1] := by cases args; simp_all
  obtain ⟨rfl, rfl⟩ := trodVars_none hV
  have hg := v8_of_laid hL hSh
  obtain ⟨a0_0, a0_1, a0_2, a0_3, a0_4, a0_5, a0_6, a0_7, rfl, rfl, rfl, w0_0, w0_1, w0_2, w0_3, w0_4, w0_5, w0_6, w0_7⟩ := open_letters (hval 0 23 v0 rfl rfl) h0
  obtain ⟨m0_0, rfl, hm0_0⟩ := nat16 w0_0
  obtain ⟨m0_1, rfl, hm0_1⟩ := nat16 w0_1
  obtain ⟨m0_2, rfl, hm0_2⟩ := nat16 w0_2
  obtain ⟨m0_3, rfl, hm0_3⟩ := nat16 w0_3
  obtain ⟨m0_4, rfl, hm0_4⟩ := nat16 w0_4
  obtain ⟨m0_5, rfl, hm0_5⟩ := nat16 w0_5
  obtain ⟨m0_6, rfl, hm0_6⟩ := nat16 w0_6
  obtain ⟨m0_7, rfl, hm0_7⟩ := nat16 w0_7
  obtain ⟨a1_0, a1_1, a1_2, a1_3, rfl, rfl, rfl, w1_0, w1_1, w1_2, w1_3⟩ := open_four (hval 1 35 v1 rfl rfl) h1
  obtain ⟨m1_0, rfl, hm1_0⟩ := nat8 w1_0
  obtain ⟨m1_1, rfl, hm1_1⟩ := nat8 w1_1
  obtain ⟨m1_2, rfl, hm1_2⟩ := nat8 w1_2
  obtain ⟨m1_3, rfl, hm1_3⟩ := nat8 w1_3
  clear hA0 hval0
  refine (law_quads8 m0_0 m0_1 m0_2 m0_3 m0_4 m0_5 m0_6 m0_7 m1_0 m1_1 m1_2 m1_3 W (all8 hm0_0 hm0_1 hm0_2 hm0_3 hm0_4 hm0_5 hm0_6 hm0_7) hm1_0 hm1_1 hm1_2 hm1_3 (sixC W hg)).mono fun e W' ⟨he, bel⟩ => ?_
  subst he
  exact ⟨_, rfl, _, _, _, [], _, [], hW', trodAll_mk1 (shut_bool Tryd.underlying4 _), (trodAll_cons_mk (shut_letters w0_0 w0_1 w0_2 w0_3 w0_4 w0_5 w0_6 w0_7) (trodAll_cons_mk (shut_four w1_0 w1_1 w1_2 w1_3) trodAll_mk0)), rfl, bel.frame _, fun h => by cases h⟩

theorem ipsixQuads_row : Rows.IpsixQuadsSaid :=
  OpenClaim.holds_of_wide 6 Tryd.f6 rfl rfl rfl rfl rfl rfl rfl ⟨rfl, rfl, rfl, rfl, rfl⟩ rfl rfl rfl rfl rfl (by kernel_rfl) Tryd.func6 (by kernel_rfl)
    (of_decide_eq_true (by kernel_rfl)) (by unfold Func.isWrapper; rw [if_neg (of_decide_eq_false (by kernel_rfl))]; exact ⟨rfl, rfl⟩)
    (fun os started H enc _ => ipsixQuads_lifted os started H enc)

/-- The tied card. -/
theorem ipsixQuads_card : Rows.IpsixQuadsCardSaid :=
  Claim7.holds_tied_plain_at .later [] [.data, .data, .data, .data, .sentinel, .sentinel, .pinned] true Rows.ipsixQuadsCard.stood.harness true
    ipsixQuads_row (fun _ h => by cases h) (by kernel_rfl) (fun _ h => by cases h) ipsixQuads_row_tie rfl ⟨rfl, rfl⟩ (by kernel_rfl) rfl
    (fun f fn hf hfn => by
      obtain rfl : f = 6 := Option.some.inj ((show Tryd.prog.funcNamed Rows.ipsixQuadsRow.func = some 6 by kernel_rfl).symm.trans hf) |>.symm
      obtain rfl : fn = Tryd.f6 := (Option.some.inj (Tryd.func6.symm.trans hfn)).symm
      exact ⟨by kernel_rfl, fun j t ht => by
        rw [Tryd.params6] at ht
        have hT : t ∈ [23, 35] := by
          match j, ht with
          | 0, ht => obtain rfl : t = 23 := by simpa using ht.symm
                     simp
          | 1, ht => obtain rfl : t = 35 := by simpa using ht.symm
                     simp
          | j + 2, ht => simp at ht
        have hall : ∀ t ∈ [23, 35], Tryd.prog.wantsStandIn t = false := by
          intro t ht
          simp only [List.mem_cons, List.mem_nil_iff, or_false] at ht
          rcases ht with rfl | rfl
          all_goals kernel_rfl
        exact hall t hT⟩)
    (by kernel_rfl)
#print axioms ipsixQuads_card
end Go.Proofs.YtfodkkdggajjaaaDoor

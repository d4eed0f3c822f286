/-
  The program's Fold does as the document says; all three of them, as a contract.
-/
import Derived.Test.YtjhppkbaidcliaaDoorJTop
namespace Go.Proofs.YtjhppkbaidcliaaDoor
open Go.RowKit

set_option maxHeartbeats 1000000 in
set_option maxRecDepth 100000 in
theorem fold_p (A : Option Addr) (l : List Int) (cap : Nat) (w : World) (hv : Vars w) (hrg : ∀ c ∈ l, R32 c) (hr : Runes w A l) (hl : l.length ≤ 500) :
    Calls Tryd.prog 12 #[.slice A l.length cap] w (FoldPost (foldL l) w) := by
  have hmf : ∀ (fn : Fn) (first cap : Array Value) (w : World), (Instr.makeFunc fn first cap).run Tryd.prog w = .ok (.func fn first cap) w := fun _ _ _ _ => rfl
  have HN0 := Lib.hid (boxI_new w comp rfl hv)
  have HTk := Lib.hid (takes_fold w hv w.heap.size)
  have HR := Lib.hid hr
  have HG := Lib.hid hrg
  clear hv hr hrg
  go_enter Tryd.func12, Tryd.ntmps12
  go_wp2
  go_loopw [11] (fun i wr => ∃ (k : Nat) (m : List Int), k ≤ l.length ∧ i = .int .i64 k ∧ BoxI w w.heap.size comp m wr ∧ mapAll (l.take k) = some m) (fun i _ => l.length - (intOf i).toNat)
  case atStart => exact ⟨0, [], Nat.zero_le _, rfl, HN0.out, rfl⟩
  case round =>
    obtain ⟨k, m, hk, rfl, hi, hmm⟩ := hrel
    have hml : m.length ≤ 1000 := by
      have := mapAll_length hmm
      rw [List.length_take] at this
      omega
    by_cases hlt : k < l.length
    · obtain ⟨b, off, rfl, _, hc⟩ := (HR.out.below hi.old) k l[k] (List.getElem?_eq_getElem hlt)
      have hrg := HG.out l[k] (List.getElem_mem hlt)
      have HT := Lib.hid (tell_fold ⟨w.heap.size, 0, none⟩ (BoxI w w.heap.size comp) HTk.out l[k] m wr hi (by omega) hrg.1 hrg.2)
      by_cases hb : Barred l[k]
      · have HN : Hid (foldL l = none) := by
          show foldL l = none
          unfold foldL
          rw [mapAll_bad hlt hb]; rfl
        obtain ⟨x, hx⟩ : ∃ x, l[k] = x := ⟨_, rfl⟩
        rw [hx] at hc hb HT
        have HBd := Lib.hid hb
        clear hx hb hrg hi hmm
        go_wp2_with (first
          | (go_at_call 18; (with_reducible refine HT.out.mono ?_)
             rintro e w1 (⟨_, rfl, hi⟩ | ⟨hn, _⟩)
             rotate_left
             · exact absurd HBd.out hn
             have HI := Lib.hid hi
             clear hi)
          | (go_at_call 23; refine (wrap_held _ _ _ _).mono ?_; rintro e w' ⟨rfl, rfl⟩))
        go_ret2
        rw [HN.out]
        refine ⟨[⟨#[102, 111, 108, 100]⟩], _, _, rfl, Chain.lay (w := w1) (cs := []) (o := some 2) ⟨#[102, 111, 108, 100]⟩ rfl, ?_⟩
        exact HI.out.old.alloc HI.out.old.size _
      · have HSt := Lib.hid (mapAll_step hlt hb hmm)
        obtain ⟨x, hx⟩ : ∃ x, l[k] = x := ⟨_, rfl⟩
        rw [hx] at hc hb HT HSt
        have HBd := Lib.hid hb
        clear hx hb hrg hi hmm
        go_wp2_with (go_at_call 18; (with_reducible refine HT.out.mono ?_)
                     rintro e w1 (⟨hn, _⟩ | ⟨_, rfl, hi⟩)
                     · exact absurd hn HBd.out
                     have HI := Lib.hid hi
                     clear hi)
        go_roundw
        case rel => exact ⟨k + 1, m ++ mapTo x, hlt, by go_num, HI.out, HSt.out⟩
        case measure => simp [intOf]; omega
    · have HS : Hid (foldL l = some (comp m)) := by
        show foldL l = some (comp m)
        rw [List.take_of_length_le (by omega)] at hmm
        unfold foldL
        rw [hmm]; rfl
      obtain ⟨v, hc, _, hrow⟩ := hi.cell
      obtain ⟨A1, c1, hvv, hru, hcc⟩ := hrow.reads
      subst hvv
      have HP := Lib.hid (And.intro hru (And.intro hcc hi.old))
      clear hru hcc hrow hi hmm
      go_wp2
      go_ret2
      rw [HS.out]
      exact ⟨_, _, rfl, HP.out.1, HP.out.2.1, HP.out.2.2⟩

theorem foldC (w0 : World) (hv : Vars w0) : FoldC w0 where
  mapBad c w hb hr h := map_bad_p c w (hv.below hb) hr h
  mapGood c w hb hr h := map_good_p c w (hv.below hb) hr h
  comp A l cap w hb hr hl _ := comp_p A l cap w (hv.below hb) hr hl
  fold A l cap w hb hg hr hl _ := fold_p A l cap w (hv.below hb) hg hr hl
end Go.Proofs.YtjhppkbaidcliaaDoor

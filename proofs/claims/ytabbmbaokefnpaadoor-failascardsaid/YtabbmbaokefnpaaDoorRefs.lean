/-
  The document's answers for layer 1, by their contracts: Text, Same, Turned.
-/
import Derived.Test.YtabbmbaokefnpaaDoorSmall
import Derived.Deep.QuietTactic
import Derived.BigQuiet
import Derived.Maps.AppendAt
namespace Go.Proofs.YtabbmbaokefnpaaDoor
open Go.RowKit

/-- The text of calls, the outermost first, round a word. -/
def txt : List ByteArray → ByteArray → ByteArray
  | [], t => t
  | c :: cs, t => c ++ ⟨#[58, 32]⟩ ++ txt cs t
theorem txt_size : ∀ (cs : List ByteArray) (t : ByteArray) (_ : ∀ s ∈ cs, s.size ≤ 60), (txt cs t).size ≤ 62 * cs.length + t.size
  | [], t, _ => by simp [txt]
  | c :: cs, t, h => by
    have h1 := txt_size cs t (fun s hs => h s (List.mem_cons_of_mem _ hs))
    have h2 := h c List.mem_cons_self
    have h3 : (⟨#[58, 32]⟩ : ByteArray).size = 2 := rfl
    simp only [txt, ByteArray.size_append, List.length_cons]
    omega

set_option maxHeartbeats 400000 in
theorem text_any (A : Option Addr) (ss : List ByteArray) (c : Nat) (t : ByteArray) (w : World) (h : Strs w A ss) (hl : ss.length ≤ 21) (hs : ∀ s ∈ ss, s.size ≤ 60) (ht : t.size ≤ 60) :
    Calls Tryd.prog 12 #[.slice A ss.length c, .string t] w fun e w' => e = .returned (.string (txt ss.reverse t)) ∧ w = w' := by
  have HS := Lib.hid hs
  clear hs
  go_enter Tryd.func12, Tryd.ntmps12
  go_wp2
  go_loop [5, 6] (fun o i => ∃ k : Nat, k ≤ ss.length ∧ i = .int .i64 k ∧ o = .string (txt (ss.take k).reverse t)) (fun _ i => ss.length - (intOf i).toNat)
  case atStart => exact ⟨0, Nat.zero_le _, rfl, rfl⟩
  case round =>
    obtain ⟨k, hk, rfl, rfl⟩ := hrel
    by_cases hlt : k < ss.length
    · obtain ⟨b, off, rfl, _, hc⟩ := h k ss[k] (List.getElem?_eq_getElem hlt)
      clear h
      have h60 : ss[k].size ≤ 60 := HS.out _ (List.getElem_mem _)
      have hts : (txt (ss.take k).reverse t).size ≤ 62 * 21 + 60 := by
        have h1 := txt_size (ss.take k).reverse t (fun s hs => HS.out _ (List.mem_of_mem_take (List.mem_reverse.1 hs)))
        simp only [List.length_reverse, List.length_take] at h1
        omega
      go_wp2
      go_round
      case rel =>
        refine ⟨k + 1, by omega, by go_num, ?_⟩
        rw [List.take_succ_eq_append_getElem hlt, List.reverse_append]
        rfl
      case measure => simp [intOf]; omega
    · have e : k = ss.length := by omega
      subst e
      rw [List.take_of_length_le (Nat.le_refl _)]
      clear h
      go_wp2
      go_ret
      exact ⟨rfl, rfl⟩

/-- Two lists that are the same. -/
def same (a b : List ByteArray) : Bool := decide (a = b)

theorem ne_of_at {a b : List ByteArray} {k : Nat} (ha : k < a.length) (hb : k < b.length) (h : a[k] ≠ b[k]) : same a b = false := by
  simp only [same, decide_eq_false_iff_not]
  rintro rfl
  exact h rfl
theorem ne_of_len {a b : List ByteArray} (h : a.length ≠ b.length) : same a b = false := by
  simp only [same, decide_eq_false_iff_not]
  rintro rfl
  exact h rfl

set_option maxHeartbeats 400000 in
theorem same_any (A B : Option Addr) (a b : List ByteArray) (c d : Nat) (w : World) (ha : Strs w A a) (hb : Strs w B b) (hl : a.length ≤ maxLen) :
    Calls Tryd.prog 15 #[.slice A a.length c, .slice B b.length d] w fun e w' => e = .returned (.bool (same a b)) ∧ ∃ n, w' = w.drewN n := by
  unfold maxLen at hl
  by_cases hlen : a.length = b.length
  · have hne : ((a.length : Int) != (b.length : Int)) = false := by rw [bne_eq_false_iff_eq]; omega
    have HL := Lib.hid hlen
    clear hlen
    go_enter Tryd.func15, Tryd.ntmps15
    go_wp2
    go_loopw [5] (fun i wr => ∃ k : Nat, k ≤ a.length ∧ i = .int .i64 k ∧ (∃ n, wr = w.drewN n) ∧ a.take k = b.take k) (fun i _ => a.length - (intOf i).toNat)
    case atStart => exact ⟨0, Nat.zero_le _, rfl, ⟨0, rfl⟩, rfl⟩
    case round =>
      obtain ⟨k, hk, rfl, ⟨n, rfl⟩, heq⟩ := hrel
      have HE := Lib.hid heq
      clear heq
      by_cases hlt : k < a.length
      · have hlt' : k < b.length := by have := HL.out; omega
        obtain ⟨ba, offa, rfl, _, hca⟩ := ha k a[k] (List.getElem?_eq_getElem hlt)
        obtain ⟨bb, offb, rfl, _, hcb⟩ := hb k b[k] (List.getElem?_eq_getElem hlt')
        clear ha hb
        by_cases hab : a[k] = b[k]
        · have ht := bytes_same hab
          have HF : Hid (a.take (k + 1) = b.take (k + 1)) := by
            show a.take (k + 1) = b.take (k + 1)
            rw [List.take_succ_eq_append_getElem hlt, List.take_succ_eq_append_getElem hlt', hab, HE.out]
          clear hab
          go_wp2_with fail
          go_quiet (fail)
          go_wp2
          go_roundw
          case rel => exact ⟨k + 1, by omega, by go_num, ⟨_, rfl⟩, HF.out⟩
          case measure => simp [intOf]; omega
        · have ht := bytes_other hab
          have HF := Lib.hid (ne_of_at hlt hlt' hab)
          clear hab
          go_wp2_with fail
          go_quiet (fail)
          go_wp2
          go_ret
          exact ⟨by rw [HF.out]; rfl, _, World.drewN_drewN _ _ _⟩
      · have e : k = a.length := by omega
        have HF : Hid (same a b = true) := by
          show same a b = true
          simp only [same, decide_eq_true_eq]
          have h1 := HE.out
          rw [List.take_of_length_le (by omega), List.take_of_length_le (by have := HL.out; omega)] at h1
          exact h1
        clear e ha hb
        go_wp2
        go_ret
        exact ⟨by rw [HF.out]; rfl, _, rfl⟩
  · have hne : ((a.length : Int) != (b.length : Int)) = true := by rw [bne_iff_ne]; omega
    have HF := Lib.hid (ne_of_len hlen)
    clear hlen ha hb
    go_enter Tryd.func15, Tryd.ntmps15
    go_wp2
    go_ret
    exact ⟨by rw [HF.out]; rfl, 0, rfl⟩

theorem Tryd.infoS : (Tryd.prog.info? 9).map (fun i => (i.zero, i.size, i.bytes)) = some (some (.string ⟨#[]⟩), 1, 16) := by kernel_rfl

/-- A slice of strings that the call made itself. -/
def Made (w w' : World) (v : Value) (ss : List ByteArray) : Prop :=
  w'.ownsRow w.heap.size 9 1 v ss.length (ss.map Value.string) ∧ Below w.heap.size w w'

theorem Made.strs {w w' : World} {v : Value} {ss : List ByteArray} (h : Made w w' v ss) : ∃ A c, v = .slice A ss.length c ∧ Strs w' A ss := by
  obtain ⟨h, hb⟩ := h
  rcases h.2 with ⟨rfl, h0⟩ | ⟨g, cap, cur, rfl, _⟩
  · rw [h0]
    obtain rfl := List.eq_nil_of_length_eq_zero h0
    exact ⟨none, 0, rfl, fun i s hs => by simp at hs⟩
  · rename_i hh
    refine ⟨_, _, rfl, fun i s hs => ?_⟩
    have hi : i < ss.length := (List.getElem?_eq_some_iff.1 hs).1
    have hc := h.cellAt (g := g) i (by simpa using hi)
    refine ⟨g, 0, rfl, ?_, ?_⟩
    · exact (Array.getElem?_eq_some_iff.1 hh.2.1).1
    · rw [Nat.zero_add, hc, List.getElem?_map, hs]; rfl

theorem own_ge {w : World} {base : Nat} {e : TypeId} {size : Nat} {v : Value} {n : Nat} {xs : List Value} (h : w.ownsRow base e size v n xs) (k : Nat) (hk : v.ownBlock = some k) : base ≤ k := by
  rcases h.2 with ⟨rfl, _⟩ | ⟨g, cap, cur, rfl, hb, _⟩
  · simp [Value.ownBlock] at hk
  · simp [Value.ownBlock] at hk; omega

theorem Made.push {w wr w1 : World} {v v' : Value} {s : ByteArray} {ss : List ByteArray} {tmp : Obj} (h : Made w wr v ss)
    (hown : w1.ownsRow w.heap.size 9 1 v' (ss.length + 1) (ss.map Value.string ++ [.string s])) (hg : (wr.alloc tmp).grownBy w1 v.ownBlock) : Made w w1 v' (ss ++ [s]) := by
  refine ⟨by simpa using hown, (h.2.alloc h.2.size tmp).grown hg (by have := h.2.size; simp; omega) (own_ge h.1)⟩

def TurnedRel (w : World) (ss : List ByteArray) (i : Int) (v : Value) (wr : World) : Prop :=
  Made w wr v (ss.drop (i + 1).toNat).reverse

def MadePost (w : World) (ss : List ByteArray) (e : Ending) (w' : World) : Prop :=
  ∃ v, e = .returned v ∧ Made w w' v ss

set_option maxHeartbeats 400000 in
theorem turned_any (A : Option Addr) (ss : List ByteArray) (c : Nat) (w : World) (h : Strs w A ss) (hl : ss.length ≤ 21) :
    Calls Tryd.prog 17 #[.slice A ss.length c] w (MadePost w ss.reverse) := by
  obtain ⟨i0, hi, hz0, hz1, hz2⟩ := info_parts Tryd.infoS
  have HI := Lib.hid (And.intro hi (And.intro hz0 (And.intro hz1 hz2)))
  clear hi hz0 hz1 hz2
  go_enter Tryd.func17, Tryd.ntmps17
  go_wp2
  go_loopw [3, 4] (fun v i wr => ∃ k : Int, -1 ≤ k ∧ k < ss.length ∧ i = .int .i64 k ∧ TurnedRel w ss k v wr) (fun _ i _ => (intOf i + 1).toNat)
  case atStart =>
    refine ⟨_, ?_, ?_, rfl, ?_⟩
    · omega
    · omega
    · unfold TurnedRel Made
      rw [show ((ss.length : Int) - 1 + 1).toNat = ss.length by omega, List.drop_length]
      exact ⟨World.ownsRow_nil _ _ _ _, Below.refl _ _⟩
  case round =>
    obtain ⟨k, hk, hk1, rfl, hm⟩ := hrel
    by_cases h0 : 0 ≤ k
    · obtain ⟨k, rfl⟩ := Int.eq_ofNat_of_zero_le h0
      have hlt : k < ss.length := by omega
      have hm2 := hm.2
      obtain ⟨b, off, rfl, _, hc⟩ := (h.below hm2) k ss[k] (List.getElem?_eq_getElem hlt)
      clear h
      have HM := Lib.hid hm
      clear hm
      have hlen : (ss.drop ((k : Int) + 1).toNat).reverse.length ≤ 21 := by simp; omega
      go_wp2_with (
        at_builtin
        refine wpList_append_own _ rfl (.tmp 12) (.tmp 17) 22 rfl w.heap.size 9 i0 _ 1 16 Tryd.underlying22 HI.out.1 HI.out.2.1 HI.out.2.2.1 HI.out.2.2.2 rfl (by decide) _ _ _ rfl (HM.out.1.alloc _) ⟨wr.heap.size, 0, none⟩ 1 1 [.string ss[k]] rfl rfl (cell_one_new _ _ _) (by simp [Value.oneCell']) ?ha ?hb ?hc ?_
        case ha => simp only [maxLen]; omega
        case hb => omega
        case hc => have := HM.out.2.size; simp; omega
        intro v' w1 hown' hgrow _)
      go_roundw
      case rel =>
        refine ⟨(k : Int) - 1, by omega, by omega, rfl, ?_⟩
        unfold TurnedRel
        rw [show ((k : Int) - 1 + 1).toNat = k by omega, List.drop_eq_getElem_cons hlt, List.reverse_cons]
        exact HM.out.push hown' hgrow
      case measure => simp [intOf]
    · have e : k = -1 := by omega
      subst e
      clear h
      change Made w wr _ ss.reverse at hm
      have HM := Lib.hid hm
      clear hm
      go_wp2
      go_ret
      exact ⟨_, rfl, HM.out⟩
end Go.Proofs.YtabbmbaokefnpaaDoor

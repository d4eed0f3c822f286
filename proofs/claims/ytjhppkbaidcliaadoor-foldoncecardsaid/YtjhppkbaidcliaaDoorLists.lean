/-
  Slices of runes that read as lists; utf.Decode, utf.Valid, utf.Encode and the document's Same, by their contracts.
-/
import Derived.Test.YtjhppkbaidcliaaDoorFirst
namespace Go.Proofs.YtjhppkbaidcliaaDoor
open Go.RowKit

/-- A slice of runes that reads as a list; nil let in. -/
def Runes (w : World) (A : Option Addr) (l : List Int) : Prop :=
  ∀ i c, l[i]? = some c → ∃ b off, A = some ⟨b, off, none⟩ ∧ b < w.heap.size ∧ w.cell? ⟨b, off + i, none⟩ = some (.int .i32 c)

theorem Runes.below {w w' : World} {A : Option Addr} {l : List Int} (h : Runes w A l) (hb : Below w.heap.size w w') : Runes w' A l := by
  intro i c hc
  obtain ⟨b, off, e, hl, hc⟩ := h i c hc
  exact ⟨b, off, e, Nat.lt_of_lt_of_le hl hb.size, (hb.cell (p := ⟨b, off + i, none⟩) hl).trans hc⟩

theorem Runes.drewN {w : World} {A : Option Addr} {l : List Int} (h : Runes w A l) (n : Nat) : Runes (w.drewN n) A l :=
  h.below (below_drewN (Below.refl _ _) n)

theorem Tryd.infoR : (Tryd.prog.info? 21).map (fun i => (i.zero, i.size, i.bytes)) = some (some (.int .i32 0), 1, 4) := by kernel_rfl

/-- A slice of runes that the call made itself. -/
def Made (w w' : World) (v : Value) (l : List Int) : Prop :=
  w'.ownsRow w.heap.size 21 1 v l.length (l.map (Value.int .i32)) ∧ Below w.heap.size w w'

theorem Made.runes {w w' : World} {v : Value} {l : List Int} (h : Made w w' v l) : ∃ A c, v = .slice A l.length c ∧ Runes w' A l := by
  obtain ⟨h, hb⟩ := h
  rcases h.2 with ⟨rfl, h0⟩ | ⟨g, cap, cur, rfl, _⟩
  · rw [h0]
    obtain rfl := List.eq_nil_of_length_eq_zero h0
    exact ⟨none, 0, rfl, fun i s hs => by simp at hs⟩
  · rename_i hh
    refine ⟨_, _, rfl, fun i s hs => ?_⟩
    have hi : i < l.length := (List.getElem?_eq_some_iff.1 hs).1
    have hc := h.cellAt (g := g) i (by simpa using hi)
    refine ⟨g, 0, rfl, ?_, ?_⟩
    · exact (Array.getElem?_eq_some_iff.1 hh.2.1).1
    · rw [Nat.zero_add, hc, List.getElem?_map, hs]; rfl

theorem own_ge {w : World} {base : Nat} {e : TypeId} {size : Nat} {v : Value} {n : Nat} {xs : List Value} (h : w.ownsRow base e size v n xs) (k : Nat) (hk : v.ownBlock = some k) : base ≤ k := by
  rcases h.2 with ⟨rfl, _⟩ | ⟨g, cap, cur, rfl, hb, _⟩
  · simp [Value.ownBlock] at hk
  · simp [Value.ownBlock] at hk; omega

theorem own_below {w w' : World} {base : Nat} {e : TypeId} {size : Nat} {v : Value} {n : Nat} {xs : List Value} (h : w.ownsRow base e size v n xs) (hb : Below w.heap.size w w') : w'.ownsRow base e size v n xs := by
  obtain ⟨h1, h2⟩ := h
  refine ⟨h1, ?_⟩
  rcases h2 with h2 | ⟨g, cap, cur, rfl, hg, hh, r⟩
  · exact .inl h2
  · exact .inr ⟨g, cap, cur, rfl, hg, (hb.block g (Array.getElem?_eq_some_iff.1 hh).1).trans hh, r⟩
theorem Made.carry {w w1 w2 : World} {v : Value} {l : List Int} (h : Made w w1 v l) (hb : Below w1.heap.size w1 w2) : Made w w2 v l :=
  ⟨own_below h.1 hb, h.2.trans (hb.mono h.2.size)⟩
theorem Made.push {w wr w1 : World} {v v' : Value} {c : Int} {l : List Int} {tmp : Obj} (h : Made w wr v l)
    (hown : w1.ownsRow w.heap.size 21 1 v' (l.length + 1) (l.map (Value.int .i32) ++ [.int .i32 c])) (hg : (wr.alloc tmp).grownBy w1 v.ownBlock) : Made w w1 v' (l ++ [c]) := by
  refine ⟨by simpa using hown, (h.2.alloc h.2.size tmp).grown hg (by have := h.2.size; simp; omega) (own_ge h.1)⟩

def MadePost (w : World) (l : List Int) (e : Ending) (w' : World) : Prop := ∃ v, e = .returned v ∧ Made w w' v l

theorem extract_list (s : ByteArray) (k : Nat) : (s.extract k s.size).data.toList = s.data.toList.drop k := by
  simp only [ByteArray.data_extract, Array.toList_extract, List.extract_eq_take_drop]
  exact List.take_of_length_le (by simp)

/-- Decoding from a place on: what is behind it, and what is told till there. -/
def DecRel (w : World) (s : ByteArray) (at_ : Nat) (v : Value) (wr : World) : Prop :=
  ∃ l, dec s.data.toList = l ++ dec (s.data.toList.drop at_) ∧ l.length ≤ at_ ∧ Made w wr v l

theorem runes_bytes (l : List Int) : (runesBytes l).data.toList = enc l := by
  have h : ∀ (l : List Int) (s : ByteArray), (l.foldl (fun r n => r ++ Utf8.encode n) s).data.toList = s.data.toList ++ enc l := by
    intro l
    induction l with
    | nil => intro s; simp [enc]
    | cons c l ih => intro s; simp only [List.foldl_cons]; rw [ih]; simp [enc, enc1]
  exact (h l ByteArray.empty).trans (by simp)

theorem add_at (b off j : Nat) : (⟨b, off, none⟩ : Addr).add j = ⟨b, off + j, none⟩ := by
  unfold Addr.add
  split <;> simp_all

theorem convert_runes (A : Option Addr) (l : List Int) (c : Nat) (w : World) (h : Runes w A l) : (convert 23 9 (.slice A l.length c)).run Tryd.prog w = .ok (.string (runesBytes l)) w := by
  cases A with
  | none =>
    cases l with
    | nil => exact run_convert_runes_nil w _ _ _ _ _ Tryd.underlying23 Tryd.underlying21 Tryd.underlying9
    | cons x l => obtain ⟨b, off, e, _⟩ := h 0 x rfl; cases e
  | some a =>
    have e := run_convert_runes w 23 9 21 a l.length c l (Nat.le_refl _) Tryd.underlying23 Tryd.underlying21 Tryd.underlying9 (fun j hj => by
      obtain ⟨b, off, e, _, hc⟩ := h j l[j] (List.getElem?_eq_getElem hj)
      obtain rfl := Option.some.inj e
      rw [add_at, hc, List.getD_eq_getElem?_getD, List.getElem?_eq_getElem hj]
      rfl)
    rw [List.take_of_length_le (Nat.le_refl _)] at e
    exact e

/-- Two lists that are the same. -/
def same (a b : List Int) : Bool := decide (a = b)

theorem ne_of_at {a b : List Int} {k : Nat} (ha : k < a.length) (hb : k < b.length) (h : a[k] ≠ b[k]) : same a b = false := by
  simp only [same, decide_eq_false_iff_not]
  rintro rfl
  exact h rfl
theorem ne_of_len {a b : List Int} (h : a.length ≠ b.length) : same a b = false := by
  simp only [same, decide_eq_false_iff_not]
  rintro rfl
  exact h rfl

set_option maxHeartbeats 400000 in
theorem same_any (A B : Option Addr) (a b : List Int) (c d : Nat) (w : World) (ha : Runes w A a) (hb : Runes w B b) (hl : a.length ≤ 5000) :
    Calls Tryd.prog 11 #[.slice A a.length c, .slice B b.length d] w fun e w' => e = .returned (.bool (same a b)) ∧ ∃ n, w' = w.drewN n := by
  by_cases hlen : a.length = b.length
  · have hne : ((a.length : Int) != (b.length : Int)) = false := by rw [bne_eq_false_iff_eq]; omega
    have HL := Lib.hid hlen
    clear hlen
    go_enter Tryd.func11, Tryd.ntmps11
    go_wp2
    go_loopw [5] (fun i wr => ∃ k : Nat, k ≤ a.length ∧ i = .int .i64 k ∧ (∃ n, wr = w.drewN n) ∧ a.take k = b.take k) (fun i _ => a.length - (intOf i).toNat)
    case atStart => exact ⟨0, Nat.zero_le _, rfl, ⟨0, rfl⟩, rfl⟩
    case round =>
      obtain ⟨k, hk, rfl, ⟨n, rfl⟩, heq⟩ := hrel
      have HE := Lib.hid heq
      clear heq
      by_cases hlt : k < a.length
      · have hlt' : k < b.length := by have := HL.out; omega
        obtain ⟨ba, offa, rfl, _, hca⟩ := ha k a[k] (List.getElem?_eq_getElem hlt)
        obtain ⟨bb, offb, rfl, _, hcb⟩ := hb k b[k] (List.getElem?_eq_getElem hlt')
        clear ha hb
        by_cases hab : a[k] = b[k]
        · have ht : (a[k] != b[k]) = false := by rw [bne_eq_false_iff_eq]; exact hab
          have HF : Hid (a.take (k + 1) = b.take (k + 1)) := by
            show a.take (k + 1) = b.take (k + 1)
            rw [List.take_succ_eq_append_getElem hlt, List.take_succ_eq_append_getElem hlt', hab, HE.out]
          clear hab
          go_wp2_with fail
          go_quiet (fail)
          go_wp2
          go_roundw
          case rel => exact ⟨k + 1, by omega, by go_num, ⟨_, rfl⟩, HF.out⟩
          case measure => simp [intOf]; omega
        · have ht : (a[k] != b[k]) = true := by rw [bne_iff_ne]; exact hab
          have HF := Lib.hid (ne_of_at hlt hlt' hab)
          clear hab
          go_wp2_with fail
          go_quiet (fail)
          go_wp2
          go_ret
          exact ⟨by rw [HF.out]; rfl, _, World.drewN_drewN _ _ _⟩
      · have e : k = a.length := by omega
        have HF : Hid (same a b = true) := by
          show same a b = true
          simp only [same, decide_eq_true_eq]
          have h1 := HE.out
          rw [List.take_of_length_le (by omega), List.take_of_length_le (by have := HL.out; omega)] at h1
          exact h1
        clear e ha hb
        go_wp2
        go_ret
        exact ⟨by rw [HF.out]; rfl, _, rfl⟩
  · have hne : ((a.length : Int) != (b.length : Int)) = true := by rw [bne_iff_ne]; omega
    have HF := Lib.hid (ne_of_len hlen)
    clear hlen ha hb
    go_enter Tryd.func11, Tryd.ntmps11
    go_wp2
    go_ret
    exact ⟨by rw [HF.out]; rfl, 0, rfl⟩
end Go.Proofs.YtjhppkbaidcliaaDoor

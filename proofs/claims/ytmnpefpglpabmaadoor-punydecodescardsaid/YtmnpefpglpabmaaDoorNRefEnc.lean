/-
  The document's Encode of layer 4, by its contract.
-/
import Derived.Test.YtmnpefpglpabmaaDoorNPut
namespace Go.Proofs.YtmnpefpglpabmaaDoor
open Go.RowKit

theorem MadeB.form {w w' : World} {v : Value} {l : List UInt8} (h : MadeB w w' v l) : ∃ A c, v = .slice A l.length c := by
  rcases h.1.2 with ⟨rfl, h0⟩ | ⟨g, cap, cur, rfl, _⟩
  · exact ⟨none, 0, by rw [h0]⟩
  · exact ⟨_, _, rfl⟩
/-- 'append(s, x...)', both of them bytes of the call's own, x not empty. -/
theorem append_bytes {ops : Array Oper} {rest : List Oper} {o : Oper} {a : Act} {Q : Exit → Act → World → Prop} {W w0 w : World} (hgd : o.guard = none) (s x : Operand)
    (ho : o.op = .call { callee := .builtin .append, args := #[s, x], argTypes := #[45, 45] })
    (v vx : Value) (l lx : List UInt8) (hs : a.eval s = v) (hx : a.eval x = vx) (h1 : MadeB W w v l) (h2 : MadeB w0 w vx lx) (hne : lx ≠ []) (hl : l.length + lx.length ≤ 100000000000)
    (h : ∀ v' w', MadeB W w' v' (l ++ lx) → wpList Tryd.prog ops Q rest (a.put o.dst v') w') : wpList Tryd.prog ops Q (o :: rest) a w := by
  obtain ⟨i0, hi, hz0, hz1, hz2⟩ := info_parts Tryd.infoB
  rcases h2.1.2 with ⟨_, h0⟩ | ⟨g, cap, cur, rfl, _⟩
  · exact absurd (List.eq_nil_of_length_eq_zero h0) hne
  · refine wpList_append_own w hgd s x _ ho W.heap.size 5 i0 _ 1 1 Tryd.underlying45 hi hz0 hz1 hz2 rfl (by decide) v _ _ hs h1.1 ⟨g, 0, none⟩ lx.length cap (cellsOf lx) hx (by simp [cellsOf]) (fun j u hu => ?_) (cellsOf_one _) (by simp only [maxLen]; omega) (by omega) h1.2.size (fun v' w' hown hg _ => h v' w' ⟨?_, ?_⟩)
    · rw [add_at, Nat.zero_add, h2.1.cellAt (g := g) j (by have := (List.getElem?_eq_some_iff.1 hu).1; simpa [cellsOf] using this)]
      exact hu
    · rw [List.length_append, cellsOf_append]; exact hown
    · exact h1.2.grown hg h1.2.size (own_ge h1.1)

theorem sc_scal (n : Nat) : scal (n : Int) = sc n := by
  unfold scal sc
  by_cases h1 : n ≤ 1114111 <;> by_cases h2 : n < 55296 <;> by_cases h3 : 57343 < n <;> simp [h1, h2, h3] <;> omega
theorem basic_succ_lt (l : List Nat) (k : Nat) (h : k < l.length) (hc : l[k] < 128) : (basicOf (l.take (k + 1))).map UInt8.ofNat = (basicOf (l.take k)).map UInt8.ofNat ++ [UInt8.ofNat l[k]] := by
  unfold basicOf
  rw [List.take_succ_eq_append_getElem h, List.filter_append, List.filter_cons_of_pos (by simpa using hc)]
  simp
theorem basic_succ_ge (l : List Nat) (k : Nat) (h : k < l.length) (hc : ¬ l[k] < 128) : (basicOf (l.take (k + 1))).map UInt8.ofNat = (basicOf (l.take k)).map UInt8.ofNat := by
  unfold basicOf
  rw [List.take_succ_eq_append_getElem h, List.filter_append, List.filter_cons_of_neg (by simpa using hc)]
  simp
theorem basic_length (l : List Nat) : (basicOf l).length ≤ l.length := List.length_filter_le _ _

def TextTwo (t : ByteArray) (n : Int) (w : World) (e : Ending) (w' : World) : Prop := e = .returned (.tuple #[.string t, .int .i64 n]) ∧ Below w.heap.size w w'

set_option maxHeartbeats 1000000 in
set_option maxRecDepth 100000 in
theorem refEnc_bad (A : Option Addr) (l : List Int) (cap : Nat) (w : World) (hr : Runes w A l) (hl : l.length ≤ 60) (hbad : ¬ ∀ c ∈ l, scal c = true) :
    Calls Tryd.prog 7 #[.slice A l.length cap] w (TextTwo ⟨#[]⟩ 2 w) := by
  obtain ⟨i0, hi, hz0, hz1, hz2⟩ := info_parts Tryd.infoB
  have HI := Lib.hid (And.intro hi (And.intro hz0 (And.intro hz1 hz2)))
  have HR := Lib.hid hr
  have HBad := Lib.hid hbad
  clear hi hz0 hz1 hz2 hr hbad
  go_enter Tryd.func7, Tryd.ntmps7
  go_wp2
  go_loopw [4, 5] (fun v i wr => ∃ (k : Nat) (bs : List UInt8), k ≤ l.length ∧ i = .int .i64 k ∧ MadeB w wr v bs ∧ bs.length ≤ k ∧ ∀ c ∈ l.take k, scal c = true) (fun _ i _ => l.length - (intOf i).toNat)
  case atStart => exact ⟨0, [], Nat.zero_le _, rfl, ⟨World.ownsRow_nil _ _ _ _, Below.refl _ _⟩, Nat.le_refl _, fun c hc => by simp at hc⟩
  case round =>
    obtain ⟨k, bs, hk, rfl, hm, hbs, hsc⟩ := hrel
    have HM := Lib.hid hm
    have HS := Lib.hid hsc
    clear hsc
    by_cases hlt : k < l.length
    · obtain ⟨b, off, rfl, _, hc⟩ := (HR.out.below hm.2) k l[k] (List.getElem?_eq_getElem hlt)
      have HT : Hid (scal l[k] = true → ∀ c ∈ l.take (k + 1), scal c = true) := by
        intro h c hc
        rw [List.take_succ_eq_append_getElem hlt, List.mem_append, List.mem_singleton] at hc
        rcases hc with hc | rfl
        · exact HS.out c hc
        · exact h
      clear hm
      obtain ⟨x, hx⟩ : ∃ x, l[k] = x := ⟨_, rfl⟩
      rw [hx] at hc HT
      clear hx
      by_cases hsx : scal x = true
      · have HX := Lib.hid hsx
        have hx0 := (scal_iff x).1 hsx
        clear hsx
        by_cases h128 : x < 128
        · have HC : Hid ((x : Int) = ((UInt8.ofNat x.toNat).toNat : Int)) := by
            show (x : Int) = ((UInt8.ofNat x.toNat).toNat : Int)
            rw [ofNat_toNat x.toNat (by omega)]; omega
          have hcell : cellsOf [UInt8.ofNat x.toNat] = [.int .u8 x] := by simp only [cellsOf, List.map]; rw [← HC.out]
          have HCell := Lib.hid hcell
          obtain ⟨hx1, hx2, hx3⟩ := hx0
          clear hcell hx3
          go_wp2_with (first
            | (go_at_call 27; refine (scalar_true _ _ HX.out).mono ?_; rintro e w' ⟨rfl, rfl⟩)
            | (at_builtin
               refine wpList_append_own _ rfl (.tmp 33) (.tmp 39) 45 rfl w.heap.size 5 i0 _ 1 1 Tryd.underlying45 HI.out.1 HI.out.2.1 HI.out.2.2.1 HI.out.2.2.2 rfl (by decide) _ _ _ rfl (HM.out.1.alloc _) ⟨wr.heap.size, 0, none⟩ 1 1 [.int .u8 x] rfl rfl (cell_one_new _ _ _) (by simp [Value.oneCell']) ?ha ?hb ?hc ?_
               case ha => simp only [maxLen]; omega
               case hb => omega
               case hc => have := HM.out.2.size; simp; omega
               intro v' w2 hown' hgrow _))
          go_roundw
          case rel => exact ⟨k + 1, bs ++ [UInt8.ofNat x.toNat], by omega, by go_num, HM.out.push (t := [UInt8.ofNat x.toNat]) (by rw [HCell.out]; exact hown') hgrow, by simp; omega, HT.out HX.out⟩
          case measure => simp [intOf]; omega
        · clear hx0
          go_wp2_with (go_at_call 27; refine (scalar_true _ _ HX.out).mono ?_; rintro e w' ⟨rfl, rfl⟩)
          go_roundw
          case rel => exact ⟨k + 1, bs, by omega, by go_num, HM.out, by omega, HT.out HX.out⟩
          case measure => simp [intOf]; omega
      · have HX := Lib.hid (Bool.eq_false_iff.2 hsx)
        clear hsx
        go_wp2_with (go_at_call 27; refine (scalar_false _ _ HX.out).mono ?_; rintro e w' ⟨rfl, rfl⟩)
        go_ret2
        exact ⟨rfl, HM.out.2⟩
    · exfalso
      have := HS.out
      rw [List.take_of_length_le (by omega)] at this
      exact HBad.out this
end Go.Proofs.YtmnpefpglpabmaaDoor

/-
  Worlds that differ in some blocks alone; a builder with its own blocks told.
-/
import Derived.Test.YtmnpefpglpabmaaQFind
namespace Go.Proofs.Ytmnpefpglpabmaa
open Go.RowKit

/-- All blocks but those listed hold what they held. -/
structure Kept (S : List Nat) (w w' : World) : Prop where
  os : w'.os = w.os
  tape : w'.tape = w.tape
  output : w'.output = w.output
  size : w.heap.size ≤ w'.heap.size
  block : ∀ k, k < w.heap.size → k ∉ S → w'.heap[k]? = w.heap[k]?

theorem Kept.refl (S : List Nat) (w : World) : Kept S w w := ⟨rfl, rfl, rfl, Nat.le_refl _, fun _ _ _ => rfl⟩
theorem Kept.trans {S S2 : List Nat} {a b c : World} (h : Kept S a b) (k : Kept S2 b c) (hs : ∀ k ∈ S2, k ∈ S ∨ a.heap.size ≤ k) : Kept S a c :=
  ⟨k.os.trans h.os, k.tape.trans h.tape, k.output.trans h.output, Nat.le_trans h.size k.size, fun i hi hn => (k.block i (Nat.lt_of_lt_of_le hi h.size) (fun hm => (hs i hm).elim hn (fun h' => by omega))).trans (h.block i hi hn)⟩
theorem Kept.mono {S S2 : List Nat} {a b : World} (h : Kept S a b) (hs : ∀ k ∈ S, k ∈ S2 ∨ a.heap.size ≤ k) : Kept S2 a b :=
  (Kept.refl S2 a).trans h hs
theorem Kept.drew {S : List Nat} {a w : World} (h : Kept S a w) : Kept S a w.drew := ⟨h.os, h.tape, h.output, h.size, h.block⟩
theorem Kept.drewN {S : List Nat} {a w : World} (h : Kept S a w) (n : Nat) : Kept S a (w.drewN n) := ⟨h.os, h.tape, h.output, h.size, h.block⟩
theorem Kept.alloc {S : List Nat} {a w : World} (h : Kept S a w) (o : Obj) : Kept S a (w.alloc o) :=
  h.trans (S2 := []) ⟨rfl, rfl, rfl, by simp, fun k hk _ => Below.heap_alloc _ _ _ hk⟩ (by simp)
theorem Kept.setCell {S : List Nat} {a w : World} (h : Kept S a w) {p : Addr} (hp : p.block ∈ S ∨ a.heap.size ≤ p.block) (u : Value) : Kept S a (w.setCell p u) :=
  h.trans (S2 := [p.block]) ⟨rfl, rfl, rfl, by simp [World.setCell], fun k _ hk => Below.heap_setCell _ _ _ _ (by simpa using hk)⟩ (by simpa using hp)
theorem Kept.grown {S : List Nat} {a w w' : World} {row : Option Nat} (h : Kept S a w) (hg : w.grownBy w' row) (hr : ∀ k, row = some k → k ∈ S ∨ a.heap.size ≤ k) : Kept S a w' :=
  h.trans (S2 := row.toList) ⟨hg.os, hg.tape, hg.output, hg.size, fun k hk hn => hg.block k hk (fun e => hn (by rw [← e]; simp))⟩ (fun k hk => hr k (by simpa using hk))
theorem Kept.cell {S : List Nat} {w w' : World} (h : Kept S w w') {p : Addr} (hl : p.block < w.heap.size) (hp : p.block ∉ S) : w'.cell? p = w.cell? p := World.cell?_of_block (w := w) (h.block p.block hl hp)
theorem Kept.frozen {S : List Nat} {w w' : World} (h : Kept S w w') {p : Addr} (hl : p.block < w.heap.size) (hp : p.block ∉ S) : w'.frozen? p = w.frozen? p := World.frozen?_of_block (w := w) (h.block p.block hl hp)
theorem Kept.below {S : List Nat} {w w' : World} {B : Nat} (h : Kept S w w') (hB : B ≤ w.heap.size) (hs : ∀ k ∈ S, B ≤ k) : Below B w w' :=
  ⟨h.os, h.tape, h.output, h.size, fun k hk => h.block k (by omega) (fun hm => by have := hs k hm; omega)⟩
theorem Kept.of_below {w w' : World} (h : Below w.heap.size w w') (S : List Nat) : Kept S w w' := ⟨h.os, h.tape, h.output, h.size, fun k hk _ => h.block k hk⟩
theorem Kept.grownBy {w w' : World} {S : List Nat} {row : Option Nat} (h : Kept S w w') (hs : ∀ k ∈ S, row = some k ∨ w.heap.size ≤ k) : w.grownBy w' row :=
  ⟨h.os, h.tape, h.output, h.size, fun k hk hn => h.block k hk (fun hm => (hs k hm).elim (fun e => hn e.symm) (fun h' => by omega))⟩
theorem owns_kept {S : List Nat} {w w' : World} {base : Nat} {e : TypeId} {size : Nat} {v : Value} {n : Nat} {xs : List Value} (h : w.ownsRow base e size v n xs) (hk : Kept S w w') (hs : ∀ k, v.ownBlock = some k → k ∉ S) : w'.ownsRow base e size v n xs := by
  obtain ⟨h1, h2⟩ := h
  refine ⟨h1, ?_⟩
  rcases h2 with h2 | ⟨g, cap, cur, rfl, hg, hh, r⟩
  · exact .inl h2
  · exact .inr ⟨g, cap, cur, rfl, hg, (hk.block g (Array.getElem?_eq_some_iff.1 hh).1 (hs g rfl)).trans hh, r⟩

/-- A builder in block b, its row in block o, with its bytes. -/
def BldO (b : Nat) (o : Option Nat) (l : List UInt8) (w : World) : Prop :=
  ∃ p v, (p = .pointer none ∨ p = .pointer (some ⟨b, 0, none⟩)) ∧ w.heap[b]? = some (.cells #[p, v] 43 (0, 0)) ∧ w.ownsRow 0 5 1 v l.length (Lib.byteCells l) ∧ v.ownBlock = o ∧ o ≠ some b
theorem BldO.lt {b : Nat} {o : Option Nat} {l : List UInt8} {w : World} (h : BldO b o l w) : b < w.heap.size := by
  obtain ⟨p, v, _, hbk, _⟩ := h
  exact (Array.getElem?_eq_some_iff.1 hbk).1
theorem BldO.olt {b : Nat} {o : Option Nat} {l : List UInt8} {w : World} (h : BldO b o l w) : ∀ k, o = some k → k < w.heap.size := by
  obtain ⟨p, v, _, _, hown, rfl, _⟩ := h
  exact fun k hk => (hown.lt k hk).2
theorem BldO.kept {b : Nat} {o : Option Nat} {l : List UInt8} {w w' : World} {S : List Nat} (h : BldO b o l w) (hk : Kept S w w') (hb : b ∉ S) (ho : ∀ k, o = some k → k ∉ S) : BldO b o l w' := by
  have hlt := h.lt
  obtain ⟨p, v, hp, hbk, hown, rfl, hne⟩ := h
  exact ⟨p, v, hp, (hk.block b hlt hb).trans hbk, owns_kept hown hk ho, rfl, hne⟩
theorem byteCells_len (l : List UInt8) : (Lib.byteCells l).length = l.length := by simp [Lib.byteCells]
theorem BldO.is {b : Nat} {o : Option Nat} {l : List UInt8} {w : World} (h : BldO b o l w) : Lib.IsBuilder 43 5 0 b (Lib.byteCells l) w := by
  obtain ⟨p, v, hp, hbk, hown, rfl, hne⟩ := h
  rcases hp with rfl | rfl
  · exact .inl ⟨Nat.zero_le _, v, hbk, by rw [byteCells_len]; exact hown, hne⟩
  · exact .inr ⟨Nat.zero_le _, v, hbk, by rw [byteCells_len]; exact hown, hne⟩
/-- Where a builder's row lies behind a write: where it lay, or in a new block. -/
def OAt (w : World) (o o' : Option Nat) : Prop := o' = o ∨ ∃ k, o' = some k ∧ w.heap.size ≤ k

theorem copyCheck_o (b : Nat) (o : Option Nat) (l : List UInt8) (w : World) (h : BldO b o l w) :
    Calls Try.prog 37 #[.pointer (some ⟨b, 0, none⟩)] w fun e w' => e = .returned (.tuple #[]) ∧
      (∃ v, w'.heap[b]? = some (.cells #[.pointer (some ⟨b, 0, none⟩), v] 43 (0, 0)) ∧ w'.ownsRow 0 5 1 v l.length (Lib.byteCells l) ∧ v.ownBlock = o) ∧ Kept [b] w w' ∧ w'.heap.size = w.heap.size := by
  have hlt := h.lt
  have hi := h.is
  obtain ⟨p, v, hp, hbk, hown, rfl, hne⟩ := h
  rcases hp with rfl | rfl
  · have h0 : Lib.BuilderAt 43 5 0 b (.pointer none) (Lib.byteCells l) w := ⟨Nat.zero_le _, v, hbk, by rw [byteCells_len]; exact hown, hne⟩
    refine (copyCheck_fresh b w h0.cell0 h0.shape h0.frozen0).mono ?_
    rintro e w' ⟨rfl, rfl⟩
    have hk : Kept [b] w (w.setCell ⟨b, 0, none⟩ (.pointer (some ⟨b, 0, none⟩))) := (Kept.refl _ _).setCell (p := ⟨b, 0, none⟩) (.inl (by simp)) _
    refine ⟨rfl, ⟨v, ?_, owns_kept hown hk (fun k hk' => by rw [hk'] at hne; simpa using hne), rfl⟩, hk, by simp [World.setCell]⟩
    simp [World.setCell, Array.getElem?_modify, hbk]
  · have h0 : Lib.BuilderAt 43 5 0 b (.pointer (some ⟨b, 0, none⟩)) (Lib.byteCells l) w := ⟨Nat.zero_le _, v, hbk, by rw [byteCells_len]; exact hown, hne⟩
    refine (copyCheck_used b w h0.cell0).mono ?_
    rintro e w' ⟨rfl, rfl⟩
    exact ⟨rfl, ⟨v, hbk, hown, rfl⟩, Kept.refl _ _, rfl⟩

set_option maxHeartbeats 1000000 in
set_option maxRecDepth 100000 in
/-- WriteByte. -/
theorem bldo_byte (b : Nat) (o : Option Nat) (l : List UInt8) (c : UInt8) (x : Int) (w : World) (h : BldO b o l w) (hx : x = (c.toNat : Int)) (hlen : l.length + 1 ≤ 1000000) :
    Calls Try.prog 17 #[.pointer (some ⟨b, 0, none⟩), .int .u8 x] w fun e w' => e = .returned .nilIface ∧ ∃ o', BldO b o' (l ++ [c]) w' ∧ OAt w o o' ∧ Kept (b :: o.toList) w w' := by
  subst hx
  obtain ⟨i0, hi, hz0, hz1, hz2⟩ := info_parts bldExtra.infoByte
  have hlt := h.lt
  have holt := h.olt
  have hne : o ≠ some b := by obtain ⟨p, v, hp, hbk, hown, rfl, hne⟩ := h; exact hne
  have HH := Lib.hid h
  clear h
  go_enter Try.func17, Try.ntmps17
  go_wp2_with (go_at_call 37; refine (copyCheck_o b o l _ HH.out).mono ?_)
  rintro e w1 ⟨rfl, ⟨v, hbk, hown, hvo⟩, hk1, hsz⟩
  have hne1 : v.ownBlock ≠ some b := by rw [hvo]; exact hne
  have c0 : w1.cell? ⟨b, 0, none⟩ = some (.pointer (some ⟨b, 0, none⟩)) := by rw [Lib.cell_of_heap hbk]; rfl
  have c1 : w1.cell? ⟨b, 1, none⟩ = some v := by rw [Lib.cell_of_heap hbk]; rfl
  have HZ := Lib.hid hsz
  have HV := Lib.hid hvo
  clear hsz hvo
  go_wp2_with (at_builtin; refine wpList_append_own_at _ rfl _ _ 41 rfl 0 5 i0 (.int .u8 0) 1 1 Try.underlying41 hi hz0 hz1 hz2 rfl (by decide) _ _ _ rfl (hown.alloc _) ⟨w1.heap.size, 0, none⟩ 1 1 [.int .u8 (c.toNat : Int)] rfl rfl ?c1 ?c2 ?c3 ?c4 ?c5 ?_)
  case c1 => exact cell_one_new _ _ _
  case c2 => intro u hu; simp at hu; subst hu; rfl
  case c3 => unfold maxLen; omega
  case c4 => omega
  case c5 => exact Nat.zero_le _
  intro v' w2 hown' hgrow _ hat
  have hlt1 : b < w1.heap.size := (Array.getElem?_eq_some_iff.1 hbk).1
  have hb2 : w2.heap[b]? = some (.cells #[.pointer (some ⟨b, 0, none⟩), v] 43 (0, 0)) := by
    rw [hgrow.block b (by simp; omega) (fun e => hne1 e.symm), Lib.alloc_old w1 _ b hlt1]
    exact hbk
  have d0 : w2.cell? ⟨b, 0, none⟩ = some (.pointer (some ⟨b, 0, none⟩)) := by rw [Lib.cell_of_heap hb2]; rfl
  have d1 : w2.cell? ⟨b, 1, none⟩ = some v := by rw [Lib.cell_of_heap hb2]; rfl
  have f1 : w2.frozen? ⟨b, 1, none⟩ = false := Lib.frozen_of_heap hb2 1
  obtain ⟨g, cap, rfl⟩ : ∃ g cap, v' = .slice (some ⟨g, 0, none⟩) (l.length + 1) cap := by
    rcases hown'.2 with ⟨_, h0⟩ | ⟨g, cap, cur, hv, _⟩
    · omega
    · exact ⟨g, cap, hv⟩
  have hKK : Kept (b :: o.toList) w w2 := by
    refine ((hk1.mono (S2 := b :: o.toList) (by simp)).alloc _).grown hgrow (fun k hk => .inl ?_)
    rw [HV.out] at hk
    simp [hk]
  have hOO : OAt w o (some g) := by
    rcases hat with e | e
    · left
      rw [HV.out] at e
      exact e
    · right
      refine ⟨g, rfl, ?_⟩
      have : g = (w1.alloc (.cells #[.int .u8 (c.toNat : Int)] 5)).heap.size := by simpa [Value.ownBlock] using e
      simp at this
      have := HZ.out
      omega
  have HK := Lib.hid (And.intro hKK hOO)
  clear hKK hOO hat
  go_wp2
  go_ret
  have hput := Lib.BuilderAt.put (T := 43) (e := 5) (Nat.zero_le b) hb2 (bs' := Lib.byteCells (l ++ [c])) (v' := .slice (some ⟨g, 0, none⟩) (l.length + 1) cap) (by rw [byteCells_append, List.length_append, byteCells_len]; exact hown') (by decide)
  obtain ⟨_, v3, hb3, hown3, hne3⟩ := hput
  have e3 : v3 = .slice (some ⟨g, 0, none⟩) (l.length + 1) cap := by
    simp [World.setCell, Array.getElem?_modify, hb2] at hb3
    exact hb3.symm
  subst e3
  refine ⟨rfl, some g, ⟨_, _, .inr rfl, hb3, ?_, rfl, hne3⟩, HK.out.2, HK.out.1.setCell (p := ⟨b, 1, none⟩) (.inl (by simp)) _⟩
  rw [byteCells_len] at hown3
  exact hown3
end Go.Proofs.Ytmnpefpglpabmaa

/-
  In this text, one behind the other: LCon, HCheck, HOne, HBld, HParts, HAll, QKept, QTally.
-/
import Derived.RangeFuncNested
import Derived.RangeFuncBound
import Derived.RangeFuncCalls
import Derived.RangeFuncLeaves
import Derived.RangeFuncBox
import Derived.Maps.AppendAt
import Derived.Shelf.Strings.BuilderK
import Derived.Shelf.Abstract
import Derived.OwnWalkIn
import Derived.TacticsInMore
import Derived.LoopNIn
import Derived.LoopIn
import Derived.Sort.LoopGhostIn
import Derived.Test.YtfaieldafoeaiaaGreatDoorG5
import Derived.Test.YtfaieldafoeaiaaGreatDoorG2
import Derived.Test.YtfaieldafoeaiaaGreatDoorG3
/-
  What the program's One and All of layer 6 are held against: their contracts, as hypotheses; the example.
-/
namespace Go.Proofs.YtfaieldafoeaiaaGreatDoor
open Go.RowKit

/-- A text and no error; or an empty text and an error of this number. -/
def TextPost (n : Nat) (s : List UInt8) (w : World) (e : Ending) (w' : World) : Prop := match n with
  | 0 => e = .returned (.tuple #[.string ⟨s.toArray⟩, .nilIface]) ∧ Below w.heap.size w w'
  | n + 1 => ∃ cs u x, e = .returned (.tuple #[.string ⟨#[]⟩, .iface u x]) ∧ Chain w' cs (some ((n + 1 : Nat) : Int)) (.iface u x) ∧ Below w.heap.size w w'
def oneNo (o : Option (List UInt8)) : Nat := match o with
  | none => 2
  | some _ => 0
/-- The program's One and All do as the document says, in every world behind w0 (which holds the package's variables). -/
structure LabelC (w0 : World) : Prop where
  one : ∀ (A : Option Addr) (l : List Int) (cap : Nat) (w : World), Below w0.heap.size w0 w → (∀ c ∈ l, R32 c) → Runes w A l → l.length ≤ 60 → l.length ≤ cap ∧ (A = none → cap = 0) → Calls Tryz.prog 7 #[.slice A l.length cap] w (TextPost (oneNo (lone l)) ((lone l).getD []) w)
  all : ∀ (A : Option Addr) (l : List Int) (cap : Nat) (w : World), Below w0.heap.size w0 w → (∀ c ∈ l, R32 c) → Runes w A l → l.length ≤ 121 → l.length ≤ cap ∧ (A = none → cap = 0) → Calls Tryz.prog 10 #[.slice A l.length cap] w (TextPost (lall l).1 (lall l).2 w)
  low : ∀ (A : Option Addr) (l : List Int) (cap : Nat) (w : World), Below w0.heap.size w0 w → Runes w A l → (∀ c ∈ l, 0 ≤ c ∧ c < 128) → l.length ≤ 1400 → l.length ≤ cap ∧ (A = none → cap = 0) → Calls Tryz.prog 10 #[.slice A l.length cap] w (TextPost (lall l).1 (lall l).2 w)

theorem lone_len2 {l : List Int} {x : List UInt8} (h : lone l = some x) (hl : l.length ≤ 250) : x.length ≤ 11 * l.length + 5 := by
  by_cases hs : ∀ c ∈ l, scal c = true
  · have he := enc_length l
    by_cases hx : l.take 4 = xnI
    · rw [lone_xn hs hx] at h
      split at h
      · cases h; omega
      · cases h
    · cases hp : plainL l with
      | true => rw [lone_plain hs hx hp] at h; cases h; omega
      | false =>
        cases hm : markL l with
        | true => rw [lone_mark hs hx hp hm] at h; cases h
        | false =>
          rw [lone_puny hs hx hp hm] at h
          cases h
          have hsc6 : ∀ n ∈ l.map Int.toNat, sc n = true := fun n hn => by
            obtain ⟨c, hc, rfl⟩ := List.mem_map.1 hn
            have hcs := (scal_iff c).1 (hs c hc)
            rw [← sc_scal', show ((c.toNat : Nat) : Int) = c by omega]
            exact hs c hc
          have := penc_len6 hsc6 (by rw [List.length_map]; exact hl)
          rw [List.length_map] at this
          rw [List.length_append]
          simp [xnB]
          omega
  · rw [lone_bad hs] at h; cases h
def wid6 : List (List Int) → Nat
  | [] => 0
  | q :: qs => q.length + 1 + wid6 qs
theorem wid6_parts (l : List Int) : wid6 (partsOf l) = l.length + 1 := by
  induction l with
  | nil => rfl
  | cons c l ih =>
    unfold partsOf
    split
    · simp [wid6, ih]; omega
    · have hn := partsOf_ne l
      cases hp : partsOf l with
      | nil => exact absurd hp hn
      | cons p ps =>
        rw [hp] at ih
        simp only [wid6, List.length_cons] at ih ⊢
        omega
theorem join_len : ∀ (qs : List (List Int)) (xs : List (List UInt8)), mapOne qs = some xs → wid6 qs ≤ 250 → (joinB xs).length ≤ 11 * wid6 qs := by
  intro qs
  induction qs with
  | nil => intro xs h _; cases h; exact Nat.zero_le _
  | cons q qs ih =>
    intro xs h hw
    simp only [wid6] at hw ⊢
    unfold mapOne at h
    cases hq : lone q with
    | none => rw [hq] at h; cases h
    | some x =>
      have h1 := lone_len2 hq (by omega)
      cases hqs : mapOne qs with
      | none => rw [hq, hqs] at h; cases h
      | some ys =>
        rw [hq, hqs] at h
        cases h
        have h2 := ih ys hqs (by omega)
        cases ys with
        | nil => simp only [joinB]; omega
        | cons y ys =>
          simp only [joinB, List.length_append, List.length_cons] at h2 ⊢
          omega
theorem lall_len6 {l : List Int} {s : List UInt8} (h : lall l = (0, s)) (hl : l.length ≤ 60) : s.length ≤ 1400 := by
  unfold lall at h
  cases hf : foldL l with
  | none => rw [hf] at h; cases h
  | some f =>
    have hfl := fold_length hf
    rw [hf] at h
    cases hm : mapOne (partsOf f) with
    | none => simp only [hm] at h; cases h
    | some xs =>
      simp only [hm] at h
      have h1 := join_len _ xs hm (by rw [wid6_parts]; omega)
      rw [wid6_parts] at h1
      split at h
      · cases h
      · cases h; omega
theorem lall_a : lall [66, 220, 67, 104, 101, 114, 12290, 120] = (0, [120, 110, 45, 45, 98, 99, 104, 101, 114, 45, 107, 118, 97, 46, 120]) := by decide +kernel
theorem lall_b : lall [] = (3, []) := by decide +kernel
theorem lone_c : lone [769] = none := by decide +kernel
theorem lab_a {w0 : World} (C : LabelC w0) (w : World) (hw : Below w0.heap.size w0 w) : Calls Tryz.prog 10 #[.slice (some ⟨w.heap.size, 0, none⟩) 8 8] (w.alloc (.cells #[.int .i32 66, .int .i32 220, .int .i32 67, .int .i32 104, .int .i32 101, .int .i32 114, .int .i32 12290, .int .i32 120] 21)) fun e w' =>
    e = .returned (.tuple #[.string ⟨#[120, 110, 45, 45, 98, 99, 104, 101, 114, 45, 107, 118, 97, 46, 120]⟩, .nilIface]) ∧ Below w.heap.size w w' := by
  refine (C.all (some ⟨w.heap.size, 0, none⟩) [66, 220, 67, 104, 101, 114, 12290, 120] 8 _ (hw.alloc hw.size _) (by intro c hc; simp at hc; unfold R32; omega) (runes_new w [66, 220, 67, 104, 101, 114, 12290, 120] 21) (by decide) ⟨by decide, fun e => by cases e⟩).mono ?_
  intro e w' h
  rw [lall_a] at h
  obtain ⟨rfl, hb⟩ := h
  exact ⟨rfl, bnext ((Below.refl _ _).alloc (Nat.le_refl _) _) hb⟩
theorem lab_b {w0 : World} (C : LabelC w0) (w : World) (hw : Below w0.heap.size w0 w) : Calls Tryz.prog 10 #[.slice none 0 0] w fun e w' =>
    ∃ cs u x, e = .returned (.tuple #[.string ⟨#[]⟩, .iface u x]) ∧ Chain w' cs (some 3) (.iface u x) ∧ Below w.heap.size w w' := by
  have := C.all none [] 0 w hw (by simp) Runes.nil_ (by decide) ⟨by decide, fun _ => rfl⟩
  rw [lall_b] at this
  exact this
theorem lab_c {w0 : World} (C : LabelC w0) (w : World) (hw : Below w0.heap.size w0 w) : Calls Tryz.prog 7 #[.slice (some ⟨w.heap.size, 0, none⟩) 1 1] (w.alloc (.cells #[.int .i32 769] 21)) fun e w' =>
    ∃ cs u x, e = .returned (.tuple #[.string ⟨#[]⟩, .iface u x]) ∧ Chain w' cs (some 2) (.iface u x) ∧ Below w.heap.size w w' := by
  refine (C.one (some ⟨w.heap.size, 0, none⟩) [769] 1 _ (hw.alloc hw.size _) (by intro c hc; simp at hc; unfold R32; omega) (runes_new w [769] 21) (by decide) ⟨by decide, fun e => by cases e⟩).mono ?_
  intro e w' h
  rw [lone_c] at h
  obtain ⟨cs, u, x, rfl, hc, hb⟩ := h
  exact ⟨cs, u, x, rfl, hc, bnext ((Below.refl _ _).alloc (Nat.le_refl _) _) hb⟩

set_option maxHeartbeats 1000000 in
set_option maxRecDepth 100000 in
theorem awake6 {w : World} (C : LabelC w) : Calls Tryz.prog 6 #[] w (Yes w) := by
  have HC := Lib.hid C
  clear C
  go_enter Tryz.func6, Tryz.ntmps6
  go_wp2_with (first
    | (go_at_call 10; (with_reducible refine (lab_a HC.out _ (Below.refl _ _)).mono ?_); rintro e w1 ⟨rfl, hb⟩; have HB := Lib.hid hb; clear hb)
    | (go_at_call 10; (with_reducible refine (lab_b HC.out _ HB.out).mono ?_); rintro e w2 ⟨cs2, u2, x2, rfl, hch, hb⟩; have HC2 := Lib.hid hch; have HB := Lib.hid (bnext HB.out hb); clear hb hch)
    | (go_at_call 7; (with_reducible refine (lab_c HC.out _ HB.out).mono ?_); rintro e w3 ⟨cs3, u3, x3, rfl, hch, hb⟩; have HC3 := Lib.hid hch; have HC2 := Lib.hid (HC2.out.below hb); have HB := Lib.hid (bnext HB.out hb); clear hb hch)
    | (go_at_call 13; (with_reducible refine (is_any _ 3 3 u2 x2 _ HC2.out).mono ?_); rintro e w' ⟨rfl, rfl⟩)
    | (go_at_call 13; (with_reducible refine (is_any _ 2 2 u3 x3 _ HC3.out).mono ?_); rintro e w' ⟨rfl, rfl⟩))
  go_ret
  exact ⟨rfl, HB.out⟩
end Go.Proofs.YtfaieldafoeaiaaGreatDoor

/-
  check of package label: the error of Punycode that stands for no part.
-/
namespace Go.Proofs.YtfaieldafoeaiaaGreatDoor
open Go.RowKit

/-- No error; or an error of number 2. -/
def CheckPost (ok : Bool) (w : World) (e : Ending) (w' : World) : Prop := match ok with
  | true => e = .returned .nilIface ∧ Below w.heap.size w w'
  | false => ∃ cs u x, e = .returned (.iface u x) ∧ Chain w' cs (some 2) (.iface u x) ∧ Below w.heap.size w w'

theorem zs_R32 {l : List Nat} (h : ∀ n ∈ l, sc n = true) : ∀ c ∈ ints l, R32 c := by
  intro c hc
  obtain ⟨n, hn, rfl⟩ := List.mem_map.1 hc
  have := sc_lt (h n hn)
  unfold R32
  omega
theorem okDec_no {s : List UInt8} (h : pdec s = none) : okDec s = false := by unfold okDec; rw [h]
theorem okDec_some {s : List UInt8} {l : List Nat} (h : pdec s = some l) : okDec s = (!(plainL (ints l)) && !(markL (ints l)) && decide (foldL (ints l) = some (ints l))) := by unfold okDec; rw [h]; rfl

set_option maxHeartbeats 2000000 in
set_option maxRecDepth 100000 in
theorem check_any (PC : PunyC) (s : ByteArray) (w : World) (hv : Vars w) (hs : s.size ≤ 1400) :
    Calls Tryz.prog 20 #[.string s] w (CheckPost (okDec s.data.toList) w) := by
  have HV := Lib.hid hv
  have HDc := Lib.hid (PC.dec s w (by omega))
  clear hv PC
  cases hp : pdec s.data.toList with
  | none =>
    rw [okDec_no hp]
    rw [hp] at HDc
    clear hp
    go_enter Tryz.func20, Tryz.ntmps20
    go_wp2_with (first
      | (go_at_call 44; refine HDc.out.mono ?_; rintro e w1 ⟨cs, u, x, rfl, hch, hb⟩; have HCh := Lib.hid hch; have HB := Lib.hid hb; clear hch hb)
      | (go_at_call 19; refine (wrap6_any cs 2 u x _ HCh.out).mono ?_; rintro e w2 ⟨cs2, u2, x2, rfl, hch, hb⟩; have HCh2 := Lib.hid hch; have HB2 := Lib.hid hb; clear hch hb))
    go_ret
    exact ⟨cs2, u2, x2, rfl, HCh2.out, bnext HB.out HB2.out⟩
  | some l =>
    rw [okDec_some hp]
    rw [hp] at HDc
    have hll := pdec_length hp
    have hln : (ints l).length ≤ 1400 := by
      rw [ints_length]
      simp at hll
      omega
    have HSc := Lib.hid (zs_R32 (penc_pdec hp).2)
    have HIL := Lib.hid (ints_length l)
    clear hp hll
    obtain ⟨L, hL⟩ : ∃ L, ints l = L := ⟨_, rfl⟩
    have HLL := Lib.hid (show l.length = L.length by rw [← hL, ints_length])
    have HDc2 : Hid (Calls Tryz.prog 44 #[.string s] w fun e w' => ∃ A c, e = .returned (.tuple #[.slice A L.length c, .nilIface]) ∧ Runes w' A L ∧ Below w.heap.size w w') := by
      refine HDc.out.mono ?_
      rintro e w' ⟨A, c, rfl, hr, _, hb⟩
      exact ⟨A, c, by rw [HLL.out], by rw [← hL]; exact hr, hb⟩
    rw [hL] at hln HSc ⊢
    clear hL HDc HIL HLL
    have hln2 : L.length ≤ 100000 := by omega
    cases hf : foldL L with
    | none =>
      have HOk : Hid ((!(plainL L) && !(markL L) && decide (none = some L)) = false) := by
        show _ = false
        simp
      rw [HOk.out]
      have HFo : Hid (∀ A c w1, Below w.heap.size w w1 → Runes w1 A L → Calls Tryz.prog 29 #[.slice A L.length c] w1 (FoldPost none w1)) := by
        intro A c w1 hb h1
        have := fold_p A L c w1 (HV.out.below hb) HSc.out h1 hln
        rwa [hf] at this
      clear hf
      go_enter Tryz.func20, Tryz.ntmps20
      go_wp2_with (first
        | (go_at_call 44; refine HDc2.out.mono ?_; rintro e w1 ⟨A, c, rfl, hr, hb⟩; have HR := Lib.hid hr; have HB := Lib.hid hb; clear hr hb)
        | (go_at_call 29; refine (HFo.out A c _ HB.out HR.out).mono ?_; rintro e w2 ⟨cs, u, x, rfl, _, hb⟩; have HB := Lib.hid (bnext HB.out hb); clear hb)
        | (go_at_call 19; refine (wrap6_any [] 2 _ _ _ rfl).mono ?_; rintro e w2 ⟨cs2, u2, x2, rfl, hch, hb⟩; have HCh2 := Lib.hid hch; have HB2 := Lib.hid hb; clear hch hb))
      go_ret
      exact ⟨cs2, u2, x2, rfl, HCh2.out, bnext HB.out HB2.out⟩
    | some f =>
      have hfl := fold_length hf
      have HFo : Hid (∀ A c w1, Below w.heap.size w w1 → Runes w1 A L → Calls Tryz.prog 29 #[.slice A L.length c] w1 (FoldPost (some f) w1)) := by
        intro A c w1 hb h1
        have := fold_p A L c w1 (HV.out.below hb) HSc.out h1 hln
        rwa [hf] at this
      clear hf
      have HEq : Hid (decide (some f = some L) = same f L) := by
        show decide (some f = some L) = same f L
        unfold same
        simp
      rw [HEq.out]
      cases hpl : plainL L with
      | true =>
        have HPl := Lib.hid hpl
        clear hpl
        go_enter Tryz.func20, Tryz.ntmps20
        go_wp2_with (first
          | (go_at_call 44; refine HDc2.out.mono ?_; rintro e w1 ⟨A, c, rfl, hr, hb⟩; have HR := Lib.hid hr; have HB := Lib.hid hb; clear hr hb)
          | (go_at_call 29; refine (HFo.out A c _ HB.out HR.out).mono ?_; rintro e w2 ⟨A2, c2, rfl, hr, _, hb⟩; have HR2 := Lib.hid hr; have HR := Lib.hid (HR.out.below hb); have HB := Lib.hid (bnext HB.out hb); clear hr hb)
          | (go_at_call 15; refine (ascii_any A L c _ HR.out hln2).mono ?_; rintro e w' ⟨rfl, rfl⟩; rw [HPl.out])
          | (go_at_call 19; refine (wrap6_any [] 2 _ _ _ rfl).mono ?_; rintro e w2 ⟨cs2, u2, x2, rfl, hch, hb⟩; have HCh2 := Lib.hid hch; have HB2 := Lib.hid hb; clear hch hb))
        go_ret
        exact ⟨cs2, u2, x2, rfl, HCh2.out, bnext HB.out HB2.out⟩
      | false =>
        have HPl := Lib.hid hpl
        clear hpl
        cases hmk : markL L with
        | true =>
          have HMk := Lib.hid hmk
          clear hmk
          go_enter Tryz.func20, Tryz.ntmps20
          go_wp2_with (first
            | (go_at_call 44; refine HDc2.out.mono ?_; rintro e w1 ⟨A, c, rfl, hr, hb⟩; have HR := Lib.hid hr; have HB := Lib.hid hb; clear hr hb)
            | (go_at_call 29; refine (HFo.out A c _ HB.out HR.out).mono ?_; rintro e w2 ⟨A2, c2, rfl, hr, _, hb⟩; have HR2 := Lib.hid hr; have HR := Lib.hid (HR.out.below hb); have HB := Lib.hid (bnext HB.out hb); clear hr hb)
            | (go_at_call 15; refine (ascii_any A L c _ HR.out hln2).mono ?_; rintro e w' ⟨rfl, rfl⟩; rw [HPl.out])
            | (go_at_call 18; refine (markFirst_any A L c _ HR.out hln2).mono ?_; rintro e w' ⟨rfl, rfl⟩; rw [HMk.out])
            | (go_at_call 19; refine (wrap6_any [] 2 _ _ _ rfl).mono ?_; rintro e w2 ⟨cs2, u2, x2, rfl, hch, hb⟩; have HCh2 := Lib.hid hch; have HB2 := Lib.hid hb; clear hch hb))
          go_ret
          exact ⟨cs2, u2, x2, rfl, HCh2.out, bnext HB.out HB2.out⟩
        | false =>
          have HMk := Lib.hid hmk
          clear hmk
          cases hsm : same f L with
          | true =>
            have HSm := Lib.hid hsm
            clear hsm
            go_enter Tryz.func20, Tryz.ntmps20
            go_wp2_with (first
              | (go_at_call 44; refine HDc2.out.mono ?_; rintro e w1 ⟨A, c, rfl, hr, hb⟩; have HR := Lib.hid hr; have HB := Lib.hid hb; clear hr hb)
              | (go_at_call 29; refine (HFo.out A c _ HB.out HR.out).mono ?_; rintro e w2 ⟨A2, c2, rfl, hr, _, hb⟩; have HR2 := Lib.hid hr; have HR := Lib.hid (HR.out.below hb); have HB := Lib.hid (bnext HB.out hb); clear hr hb)
              | (go_at_call 15; refine (ascii_any A L c _ HR.out hln2).mono ?_; rintro e w' ⟨rfl, rfl⟩; rw [HPl.out])
              | (go_at_call 18; refine (markFirst_any A L c _ HR.out hln2).mono ?_; rintro e w' ⟨rfl, rfl⟩; rw [HMk.out])
              | (go_at_call 45; refine (equal_any A2 A f L c2 c _ HR2.out HR.out (by omega)).mono ?_; rintro e w3 ⟨rfl, hn⟩; rw [HSm.out]; have HN := Lib.hid hn; clear hn))
            go_ret
            refine ⟨rfl, ?_⟩
            obtain ⟨n, hn⟩ := HN.out
            rw [hn]
            exact below_drewN HB.out n
          | false =>
            have HSm := Lib.hid hsm
            clear hsm
            go_enter Tryz.func20, Tryz.ntmps20
            go_wp2_with (first
              | (go_at_call 44; refine HDc2.out.mono ?_; rintro e w1 ⟨A, c, rfl, hr, hb⟩; have HR := Lib.hid hr; have HB := Lib.hid hb; clear hr hb)
              | (go_at_call 29; refine (HFo.out A c _ HB.out HR.out).mono ?_; rintro e w2 ⟨A2, c2, rfl, hr, _, hb⟩; have HR2 := Lib.hid hr; have HR := Lib.hid (HR.out.below hb); have HB := Lib.hid (bnext HB.out hb); clear hr hb)
              | (go_at_call 15; refine (ascii_any A L c _ HR.out hln2).mono ?_; rintro e w' ⟨rfl, rfl⟩; rw [HPl.out])
              | (go_at_call 18; refine (markFirst_any A L c _ HR.out hln2).mono ?_; rintro e w' ⟨rfl, rfl⟩; rw [HMk.out])
              | (go_at_call 45; refine (equal_any A2 A f L c2 c _ HR2.out HR.out (by omega)).mono ?_; rintro e w3 ⟨rfl, hn⟩; rw [HSm.out]; have HN := Lib.hid hn; clear hn)
              | (go_at_call 19; refine (wrap6_any [] 2 _ _ _ rfl).mono ?_; rintro e w4 ⟨cs2, u2, x2, rfl, hch, hb⟩; have HCh2 := Lib.hid hch; have HB2 := Lib.hid hb; clear hch hb))
            go_ret
            refine ⟨cs2, u2, x2, rfl, HCh2.out, ?_⟩
            obtain ⟨n, hn⟩ := HN.out
            exact bnext (by rw [hn]; exact below_drewN HB.out n) HB2.out
end Go.Proofs.YtfaieldafoeaiaaGreatDoor

/-
  One of package label does as the document says.
-/
namespace Go.Proofs.YtfaieldafoeaiaaGreatDoor
open Go.RowKit

/-- Numbers that One is asked: few, or all below 128. -/
def Fit (l : List Int) : Prop := (∀ c ∈ l, R32 c) ∧ (l.length ≤ 250 ∨ (plainL l = true ∧ l.length ≤ 1400))
theorem Fit.len {l : List Int} (h : Fit l) : l.length ≤ 1400 := by rcases h.2 with h | h <;> omega
theorem plain_sub {l m : List Int} (h : plainL l = true) (hs : ∀ c ∈ m, c ∈ l) : plainL m = true := by
  unfold plainL at h ⊢
  rw [List.all_eq_true] at h ⊢
  exact fun c hc => h c (hs c hc)
theorem Fit.sub {l m : List Int} (h : Fit l) (hs : ∀ c ∈ m, c ∈ l) (hl : m.length ≤ l.length) : Fit m := by
  refine ⟨fun c hc => h.1 c (hs c hc), ?_⟩
  rcases h.2 with h' | ⟨h1, h2⟩
  · exact .inl (by omega)
  · exact .inr ⟨plain_sub h1 hs, by omega⟩
theorem any_noS {l : List Int} (h : ∀ c ∈ l, scal c = true) : l.any noS = false := by
  rw [List.any_eq_false]
  intro c hc
  unfold noS
  rw [h c hc]
  simp
theorem any_noS_not {l : List Int} (h : ¬ ∀ c ∈ l, scal c = true) : l.any noS = true := by
  cases ha : l.any noS with
  | true => rfl
  | false =>
    rw [List.any_eq_false] at ha
    refine absurd (fun c hc => ?_) h
    have := ha c hc
    unfold noS at this
    simpa using this
theorem plain_mark {l : List Int} (h : plainL l = true) : markL l = false := by
  cases l with
  | nil => rfl
  | cons c l =>
    unfold plainL at h
    rw [List.all_cons, Bool.and_eq_true, decide_eq_true_eq] at h
    show (decide (768 ≤ c) && decide (c ≤ 879)) = false
    rw [Bool.and_eq_false_iff]
    left
    simp
    omega
theorem enc_plain_len {l : List Int} (hs : ∀ c ∈ l, scal c = true) (h : plainL l = true) : (enc l).length = l.length := by
  unfold plainL at h
  rw [List.all_eq_true] at h
  rw [enc_plain (fun c hc => ((scal_iff c).1 (hs c hc)).1) (fun c hc => by simpa using h c hc), List.length_map]
theorem text_two {s : List UInt8} {w : World} {e : Ending} {w' : World} {cs : List ByteArray} {u : TypeId} {x : Value} (he : e = .returned (.tuple #[.string ⟨#[]⟩, .iface u x])) (hc : Chain w' cs (some 2) (.iface u x)) (hb : Below w.heap.size w w') : TextPost 2 s w e w' := ⟨cs, u, x, he, hc, hb⟩
theorem text_no {w : World} {e : Ending} {w' : World} {s : List UInt8} (he : e = .returned (.tuple #[.string ⟨s.toArray⟩, .nilIface])) (hb : Below w.heap.size w w') : TextPost 0 s w e w' := ⟨he, hb⟩

set_option maxHeartbeats 4000000 in
set_option maxRecDepth 100000 in
theorem one_p (PC : PunyC) (A : Option Addr) (l : List Int) (cap : Nat) (w : World) (hv : Vars w) (hr : Runes w A l) (hf : Fit l) (hcap : l.length ≤ cap) :
    Calls Tryz.prog 7 #[.slice A l.length cap] w (TextPost (oneNo (lone l)) ((lone l).getD []) w) := by
  have hln := hf.len
  have hln2 : l.length ≤ 100000 := by omega
  have hcv := convert_runes A l cap w hr
  have hel := enc_length l
  obtain ⟨st, hst⟩ : ∃ st, runesBytes l = st := ⟨_, rfl⟩
  have HST := Lib.hid (show st.data.toList = enc l by rw [← hst]; exact runes_bytes l)
  rw [hst] at hcv
  have hsz : st.size ≤ 10000 := by
    have h1 : st.size = (enc l).length := by rw [← HST.out]; simp
    omega
  clear hst hel
  have HR := Lib.hid hr
  have HV := Lib.hid hv
  have HF := Lib.hid hf
  have HPC := Lib.hid PC
  clear hr hv hf PC
  have HA := Lib.hid (ascii_any A l cap w HR.out hln2)
  have HN := Lib.hid (has_noS A l cap w HR.out hln2)
  have HM := Lib.hid (markFirst_any A l cap w HR.out hln2)
  by_cases hs : ∀ c ∈ l, scal c = true
  · rw [any_noS hs] at HN
    by_cases hx : l.take 4 = xnI
    · have HCut := Lib.hid (cutX_yes st w (by omega) (by rw [HST.out]; exact (xn_iff hs).1 hx))
      rw [lone_xn hs hx]
      have HSz4 : Hid ((st.extract 4 st.size).size = st.size - 4) := by show (st.extract 4 st.size).size = _; simp
      have HDt : Hid ((st.extract 4 st.size).data.toList = enc (l.drop 4)) := by
        show (st.extract 4 st.size).data.toList = _
        rw [extract_list, HST.out, xn_rest hx]
      clear hx
      cases hpl : plainL l with
      | false =>
        rw [hpl] at HA
        clear hpl hs
        go_enter Tryz.func7, Tryz.ntmps7
        go_wp2_with (first
          | (go_at_call 14; refine HCut.out.mono ?_; rintro e w' ⟨rfl, rfl⟩)
          | (go_at_call 15; refine HA.out.mono ?_; rintro e w' ⟨rfl, rfl⟩)
          | (go_at_call 16; refine HN.out.mono ?_; rintro e w' ⟨rfl, rfl⟩)
          | (go_at_call 18; refine HM.out.mono ?_; rintro e w' ⟨rfl, rfl⟩)
          | (go_at_call 19; refine (wrap6_any [] 2 _ _ _ rfl).mono ?_; rintro e w2 ⟨cs2, u2, x2, rfl, hch, hb⟩; have HCh2 := Lib.hid hch; have HB2 := Lib.hid hb; clear hch hb))
        go_ret2
        exact text_two rfl HCh2.out HB2.out
      | true =>
        rw [hpl] at HA
        rw [plain_mark hpl] at HM
        have hst2 : st.size ≤ 1400 := by
          have h1 : st.size = (enc l).length := by rw [← HST.out]; simp
          have h2 := enc_plain_len hs hpl
          omega
        clear hpl hs
        have HCk := Lib.hid (check_any HPC.out (st.extract 4 st.size) w HV.out (by rw [HSz4.out]; omega))
        rw [HDt.out] at HCk
        cases hok : okDec (enc (l.drop 4)) with
        | false =>
          rw [hok] at HCk
          clear hok
          go_enter Tryz.func7, Tryz.ntmps7
          go_wp2_with (first
            | (go_at_call 14; refine HCut.out.mono ?_; rintro e w' ⟨rfl, rfl⟩)
            | (go_at_call 15; refine HA.out.mono ?_; rintro e w' ⟨rfl, rfl⟩)
            | (go_at_call 16; refine HN.out.mono ?_; rintro e w' ⟨rfl, rfl⟩)
            | (go_at_call 18; refine HM.out.mono ?_; rintro e w' ⟨rfl, rfl⟩)
            | (go_at_call 20; refine HCk.out.mono ?_; rintro e w2 ⟨cs2, u2, x2, rfl, hch, hb⟩; have HCh2 := Lib.hid hch; have HB2 := Lib.hid hb; clear hch hb))
          go_ret2
          exact text_two rfl HCh2.out HB2.out
        | true =>
          rw [hok] at HCk
          clear hok
          go_enter Tryz.func7, Tryz.ntmps7
          go_wp2_with (first
            | (go_at_call 14; refine HCut.out.mono ?_; rintro e w' ⟨rfl, rfl⟩)
            | (go_at_call 15; refine HA.out.mono ?_; rintro e w' ⟨rfl, rfl⟩)
            | (go_at_call 16; refine HN.out.mono ?_; rintro e w' ⟨rfl, rfl⟩)
            | (go_at_call 18; refine HM.out.mono ?_; rintro e w' ⟨rfl, rfl⟩)
            | (go_at_call 20; refine HCk.out.mono ?_; rintro e w2 ⟨rfl, hb⟩; have HB2 := Lib.hid hb; clear hb))
          go_ret2
          exact text_no (s := enc l) (by rw [← HST.out]; rfl) HB2.out
    · have HCut := Lib.hid (cutX_no st w (by omega) (by rw [HST.out]; exact fun e => hx ((xn_iff hs).2 e)))
      cases hpl : plainL l with
      | true =>
        rw [lone_plain hs hx hpl]
        rw [hpl] at HA
        rw [plain_mark hpl] at HM
        clear hpl hs hx
        go_enter Tryz.func7, Tryz.ntmps7
        go_wp2_with (first
          | (go_at_call 14; refine HCut.out.mono ?_; rintro e w' ⟨rfl, rfl⟩)
          | (go_at_call 15; refine HA.out.mono ?_; rintro e w' ⟨rfl, rfl⟩)
          | (go_at_call 16; refine HN.out.mono ?_; rintro e w' ⟨rfl, rfl⟩)
          | (go_at_call 18; refine HM.out.mono ?_; rintro e w' ⟨rfl, rfl⟩))
        go_ret2
        exact text_no (s := enc l) (by rw [← HST.out]; rfl) (Below.refl _ _)
      | false =>
        have hl250 : l.length ≤ 250 := by
          rcases HF.out.2 with h | h
          · exact h
          · rw [hpl] at h; cases h.1
        rw [hpl] at HA
        cases hmk : markL l with
        | true =>
          rw [lone_mark hs hx hpl hmk]
          rw [hmk] at HM
          clear hpl hs hx hmk
          go_enter Tryz.func7, Tryz.ntmps7
          go_wp2_with (first
            | (go_at_call 14; refine HCut.out.mono ?_; rintro e w' ⟨rfl, rfl⟩)
            | (go_at_call 15; refine HA.out.mono ?_; rintro e w' ⟨rfl, rfl⟩)
            | (go_at_call 16; refine HN.out.mono ?_; rintro e w' ⟨rfl, rfl⟩)
            | (go_at_call 18; refine HM.out.mono ?_; rintro e w' ⟨rfl, rfl⟩)
            | (go_at_call 19; refine (wrap6_any [] 2 _ _ _ rfl).mono ?_; rintro e w2 ⟨cs2, u2, x2, rfl, hch, hb⟩; have HCh2 := Lib.hid hch; have HB2 := Lib.hid hb; clear hch hb))
          go_ret2
          exact text_two rfl HCh2.out HB2.out
        | false =>
          rw [lone_puny hs hx hpl hmk]
          rw [hmk] at HM
          obtain ⟨hz, hsc⟩ := ints_of hs
          obtain ⟨pt, hpt⟩ : ∃ pt : ByteArray, pt = ⟨(penc (l.map Int.toNat)).toArray⟩ := ⟨_, rfl⟩
          have hptb : pt.size ≤ 100000 := by
            have := penc_len hsc (by rw [List.length_map]; omega)
            rw [List.length_map] at this
            rw [hpt]
            show (penc (l.map Int.toNat)).toArray.size ≤ 100000
            simp
            omega
          have HEn : Hid (Calls Tryz.prog 21 #[.slice A l.length cap] w fun e w' => e = .returned (.tuple #[.string pt, .nilIface]) ∧ Below w.heap.size w w') := by
            have := HPC.out.encOk A (l.map Int.toNat) cap w (by rw [← hz]; exact HR.out) hsc (by rw [List.length_map]; exact hl250) (by rw [List.length_map]; exact hcap)
            rw [List.length_map] at this
            rw [hpt]
            exact this
          have HPt := Lib.hid hpt
          clear hpl hs hx hmk hz hsc hpt
          go_enter Tryz.func7, Tryz.ntmps7
          go_wp2_with (first
            | (go_at_call 14; refine HCut.out.mono ?_; rintro e w' ⟨rfl, rfl⟩)
            | (go_at_call 15; refine HA.out.mono ?_; rintro e w' ⟨rfl, rfl⟩)
            | (go_at_call 16; refine HN.out.mono ?_; rintro e w' ⟨rfl, rfl⟩)
            | (go_at_call 18; refine HM.out.mono ?_; rintro e w' ⟨rfl, rfl⟩)
            | (go_at_call 21; refine HEn.out.mono ?_; rintro e w2 ⟨rfl, hb⟩; have HB2 := Lib.hid hb; clear hb))
          go_ret2
          refine text_no (s := xnB ++ penc (l.map Int.toNat)) ?_ HB2.out
          have hcat := HPt.out
          first | rfl | (simp [xnB]; done) | (rw [hcat]; rfl)
  · rw [any_noS_not hs] at HN
    rw [lone_bad hs]
    clear hs
    by_cases hx : st.data.toList.take 4 = xnB
    · have HCut := Lib.hid (cutX_yes st w (by omega) hx)
      clear hx
      go_enter Tryz.func7, Tryz.ntmps7
      go_wp2_with (first
        | (go_at_call 14; refine HCut.out.mono ?_; rintro e w' ⟨rfl, rfl⟩)
        | (go_at_call 15; refine HA.out.mono ?_; rintro e w' ⟨rfl, rfl⟩)
        | (go_at_call 16; refine HN.out.mono ?_; rintro e w' ⟨rfl, rfl⟩)
        | (go_at_call 19; refine (wrap6_any [] 2 _ _ _ rfl).mono ?_; rintro e w2 ⟨cs2, u2, x2, rfl, hch, hb⟩; have HCh2 := Lib.hid hch; have HB2 := Lib.hid hb; clear hch hb))
      go_ret2
      exact text_two rfl HCh2.out HB2.out
    · have HCut := Lib.hid (cutX_no st w (by omega) hx)
      clear hx
      go_enter Tryz.func7, Tryz.ntmps7
      go_wp2_with (first
        | (go_at_call 14; refine HCut.out.mono ?_; rintro e w' ⟨rfl, rfl⟩)
        | (go_at_call 15; refine HA.out.mono ?_; rintro e w' ⟨rfl, rfl⟩)
        | (go_at_call 16; refine HN.out.mono ?_; rintro e w' ⟨rfl, rfl⟩)
        | (go_at_call 19; refine (wrap6_any [] 2 _ _ _ rfl).mono ?_; rintro e w2 ⟨cs2, u2, x2, rfl, hch, hb⟩; have HCh2 := Lib.hid hch; have HB2 := Lib.hid hb; clear hch hb))
      go_ret2
      exact text_two rfl HCh2.out HB2.out
end Go.Proofs.YtfaieldafoeaiaaGreatDoor

/-
  strings.Builder inside a round of a range over a function: what is no cells lies as it lay.
-/
namespace Go.Proofs.YtfaieldafoeaiaaGreatDoor
open Go.RowKit Go.Shelf

theorem keeps_below {W W' : World} (h : Below W.heap.size W W') : KeepsOthers W W' := ⟨h.size, fun k _ hk _ => (h.block k (Array.getElem?_eq_some_iff.1 hk).1).trans hk⟩
theorem copyCheck_k (B b : Nat) (bs : List Value) (w : World) (h : Lib.IsBuilder 51 5 B b bs w) :
    Calls Tryz.prog 68 #[.pointer (some ⟨b, 0, none⟩)] w fun e w' => e = .returned (.tuple #[]) ∧ (Lib.BuilderAt 51 5 B b (.pointer (some ⟨b, 0, none⟩)) bs w' ∧ Below B w w' ∧ KeepsOthers w w') := by
  rcases h with h | h
  · refine (copyCheck_fresh b w h.cell0 h.shape h.frozen0).mono ?_
    rintro e w' ⟨rfl, rfl⟩
    exact ⟨rfl, h.used _, (Below.refl B w).setCell (p := ⟨b, 0, none⟩) h.1 _, KeepsOthers.setCell _ _ _⟩
  · refine (copyCheck_used b w h.cell0).mono ?_
    rintro e w' ⟨rfl, rfl⟩
    exact ⟨rfl, h, Below.refl B _, KeepsOthers.refl _⟩
theorem row_cells {w : World} {base : Nat} {e : TypeId} {size : Nat} {v : Value} {n : Nat} {xs : List Value} (h : w.ownsRow base e size v n xs) : ∀ (j : Nat) (o : Obj), v.ownBlock = some j → w.heap[j]? = some o → o.isCells = true := by
  intro j o ej hj
  rcases h.2 with ⟨rfl, _⟩ | ⟨g, cap, cur, rfl, _, hgb, _⟩
  · simp [Value.ownBlock] at ej
  · obtain rfl : g = j := by simpa [Value.ownBlock] using ej
    rw [hgb] at hj; cases hj; rfl

set_option maxHeartbeats 1000000 in
set_option maxRecDepth 100000 in
/-- WriteString. -/
theorem bldk_text (B b : Nat) (l : List UInt8) (s : ByteArray) (w : World) (h : Bld B b l w) (hlen : l.length + s.size ≤ 100000000) (hBw : B ≤ w.heap.size) :
    Calls Tryz.prog 32 #[.pointer (some ⟨b, 0, none⟩), .string s] w fun e w' => e = .returned (.tuple #[.int .i64 s.size, .nilIface]) ∧ (Bld B b (l ++ s.data.toList) w' ∧ Below B w w' ∧ KeepsOthers w w') := by
  obtain ⟨bs, hbs⟩ : ∃ bs, Lib.byteCells l = bs := ⟨_, rfl⟩
  have hlen2 : bs.length + s.size ≤ 100000000 := by rw [← hbs, byteCells_length]; exact hlen
  have HBs : Hid (Lib.byteCells (l ++ s.data.toList) = bs ++ Lib.strCells s) := by
    show Lib.byteCells (l ++ s.data.toList) = bs ++ Lib.strCells s
    rw [byteCells_append, hbs]; rfl
  unfold Bld at h ⊢
  rw [HBs.out]
  rw [hbs] at h
  clear hbs hlen
  obtain ⟨i0, hi, hz0, hz1, hz2⟩ := info_parts bldExtra.infoByte
  go_enter Tryz.func32, Tryz.ntmps32
  go_wp2_with (go_at_call 68; refine (copyCheck_k B b bs _ h).mono ?_)
  rintro e w1 ⟨rfl, h1, hb1, hk1⟩
  obtain ⟨hB, v, hbk, hown, hne⟩ := h1
  have c0 : w1.cell? ⟨b, 0, none⟩ = some (.pointer (some ⟨b, 0, none⟩)) := by rw [Lib.cell_of_heap hbk]; rfl
  have c1 : w1.cell? ⟨b, 1, none⟩ = some v := by rw [Lib.cell_of_heap hbk]; rfl
  go_wp2_with (at_builtin; refine Lib.wpList_append_own_string _ rfl _ _ 49 9 rfl B 5 i0 Tryz.underlying49 Tryz.underlying9 hi hz0 hz1 hz2 _ _ _ rfl hown s rfl ?c3 ?c4 ?c5 ?_)
  case c3 => unfold maxLen; omega
  case c4 => omega
  case c5 => have := hb1.size; omega
  intro v' w2 hown' hgrow _
  have hlt : b < w1.heap.size := by
    rcases Nat.lt_or_ge b w1.heap.size with h' | h'
    · exact h'
    · simp [Array.getElem?_eq_none h'] at hbk
  have hb2 : w2.heap[b]? = some (.cells #[.pointer (some ⟨b, 0, none⟩), v] 51 (0, 0)) := by
    rw [hgrow.block b hlt (fun e => hne e.symm)]
    exact hbk
  have d0 : w2.cell? ⟨b, 0, none⟩ = some (.pointer (some ⟨b, 0, none⟩)) := by rw [Lib.cell_of_heap hb2]; rfl
  have d1 : w2.cell? ⟨b, 1, none⟩ = some v := by rw [Lib.cell_of_heap hb2]; rfl
  have f1 : w2.frozen? ⟨b, 1, none⟩ = false := Lib.frozen_of_heap hb2 1
  have HK := Lib.hid (hk1.trans (KeepsOthers.of_grownBy hgrow (row_cells hown)))
  obtain ⟨ao, n', cap, rfl⟩ : ∃ ao n' cap, v' = .slice ao n' cap := by
    rcases hown'.2 with ⟨hv, _⟩ | ⟨g, cap, cur, hv, _⟩
    · exact ⟨_, _, _, hv⟩
    · exact ⟨_, _, _, hv⟩
  go_wp2
  go_ret2
  refine ⟨rfl, .inr ?_, ?_, HK.out.trans (KeepsOthers.setCell _ _ _)⟩
  · exact Lib.BuilderAt.put (T := 51) (e := 5) hB hb2 (bs' := bs ++ Lib.strCells s) (by simpa [Lib.strCells_length] using hown') (by decide)
  · exact (hb1.grown hgrow (by have := hb1.size; omega) (fun k hk => (hown.lt k hk).1)).setCell (p := ⟨b, 1, none⟩) hB _

set_option maxHeartbeats 1000000 in
set_option maxRecDepth 100000 in
/-- WriteByte. -/
theorem bldk_byte (B b : Nat) (l : List UInt8) (c : UInt8) (x : Int) (w : World) (h : Bld B b l w) (hx : x = (c.toNat : Int)) (hlen : l.length + 1 ≤ 100000000) (hBw : B ≤ w.heap.size) :
    Calls Tryz.prog 31 #[.pointer (some ⟨b, 0, none⟩), .int .u8 x] w fun e w' => e = .returned .nilIface ∧ (Bld B b (l ++ [c]) w' ∧ Below B w w' ∧ KeepsOthers w w') := by
  obtain ⟨bs, hbs⟩ : ∃ bs, Lib.byteCells l = bs := ⟨_, rfl⟩
  have hlen2 : bs.length + 1 ≤ 100000000 := by rw [← hbs, byteCells_length]; exact hlen
  have HBs : Hid (Lib.byteCells (l ++ [c]) = bs ++ [.int .u8 x]) := by
    show Lib.byteCells (l ++ [c]) = bs ++ [.int .u8 x]
    rw [byteCells_append, hbs, hx]; rfl
  unfold Bld at h ⊢
  rw [HBs.out]
  rw [hbs] at h
  clear hbs hlen hx
  obtain ⟨i0, hi, hz0, hz1, hz2⟩ := info_parts bldExtra.infoByte
  go_enter Tryz.func31, Tryz.ntmps31
  go_wp2_with (go_at_call 68; refine (copyCheck_k B b bs _ h).mono ?_)
  rintro e w1 ⟨rfl, h1, hb1, hk1⟩
  obtain ⟨hB, v, hbk, hown, hne⟩ := h1
  have c0 : w1.cell? ⟨b, 0, none⟩ = some (.pointer (some ⟨b, 0, none⟩)) := by rw [Lib.cell_of_heap hbk]; rfl
  have c1 : w1.cell? ⟨b, 1, none⟩ = some v := by rw [Lib.cell_of_heap hbk]; rfl
  go_wp2_with (at_builtin; refine wpList_append_own _ rfl _ _ 49 rfl B 5 i0 (.int .u8 0) 1 1 Tryz.underlying49 hi hz0 hz1 hz2 rfl (by decide) _ _ _ rfl (hown.alloc _) ⟨w1.heap.size, 0, none⟩ 1 1 [.int .u8 x] rfl rfl ?c1 ?c2 ?c3 ?c4 ?c5 ?_)
  case c1 =>
    intro j u hj
    match j, hj with
    | 0, hj => simp at hj; subst hj; simp [Addr.add]
  case c2 => intro u hu; simp at hu; subst hu; rfl
  case c3 => unfold maxLen; omega
  case c4 => omega
  case c5 => have := hb1.size; simp; omega
  intro v' w2 hown' hgrow _
  have hlt : b < w1.heap.size := by
    rcases Nat.lt_or_ge b w1.heap.size with h' | h'
    · exact h'
    · simp [Array.getElem?_eq_none h'] at hbk
  have hb2 : w2.heap[b]? = some (.cells #[.pointer (some ⟨b, 0, none⟩), v] 51 (0, 0)) := by
    rw [hgrow.block b (by simp; omega) (fun e => hne e.symm), Lib.alloc_old w1 _ b hlt]
    exact hbk
  have d0 : w2.cell? ⟨b, 0, none⟩ = some (.pointer (some ⟨b, 0, none⟩)) := by rw [Lib.cell_of_heap hb2]; rfl
  have d1 : w2.cell? ⟨b, 1, none⟩ = some v := by rw [Lib.cell_of_heap hb2]; rfl
  have f1 : w2.frozen? ⟨b, 1, none⟩ = false := Lib.frozen_of_heap hb2 1
  have HK := Lib.hid ((hk1.trans (KeepsOthers.alloc _ _)).trans (KeepsOthers.of_grownBy hgrow (row_cells (hown.alloc _))))
  obtain ⟨g, cap, rfl⟩ : ∃ g cap, v' = .slice (some ⟨g, 0, none⟩) (bs.length + 1) cap := by
    rcases hown'.2 with ⟨_, h0⟩ | ⟨g, cap, cur, hv, _⟩
    · omega
    · exact ⟨g, cap, hv⟩
  go_wp2
  go_ret
  refine ⟨rfl, .inr ?_, ?_, HK.out.trans (KeepsOthers.setCell _ _ _)⟩
  · exact Lib.BuilderAt.put (T := 51) (e := 5) hB hb2 (bs' := bs ++ [.int .u8 x]) (by simpa using hown') (by decide)
  · exact ((hb1.alloc (by have := hb1.size; omega) _).grown hgrow (by have := hb1.size; simp; omega) (fun k hk => (hown.lt k hk).1)).setCell (p := ⟨b, 1, none⟩) hB _

/-- String; a block that is no cells lies as it lay. -/
theorem bldk_done (B b : Nat) (l : List UInt8) (w : World) (h : Bld B b l w) (hBw : B ≤ w.heap.size) :
    Calls Tryz.prog 34 #[.pointer (some ⟨b, 0, none⟩)] w fun e w' => e = .returned (.string ⟨l.toArray⟩) ∧ Below B w w' ∧ (∀ (k : Nat) (o : Obj), w.heap[k]? = some o → o.isCells = false → w'.heap[k]? = some o) := by
  have hF : Lib.IsBuilderF 51 5 B b (Lib.byteCells l) w := h.elim (fun x => .inl (Lib.BuilderAtF.of x)) (fun x => .inr (Lib.BuilderAtF.of x))
  refine (Any.Builder_String_any_k lays169 bldExtra B b l w hF hBw).mono ?_
  rintro e w' ⟨rfl, _, hb, hk⟩
  refine ⟨rfl, hb, fun k o ho hc => hk k o ho ?_ ?_⟩
  · intro e
    cases e
    have : ∀ p, Lib.BuilderAt 51 5 B b p (Lib.byteCells l) w → False := by
      rintro p ⟨_, v, hbk, _⟩
      rw [hbk] at ho
      cases ho
      cases hc
    exact h.elim (this _) (this _)
  · rintro c fz rfl
    cases hc
/-! What is said of a builder, of a chain, speaks of cells alone. -/
theorem owns_own {W W' : World} {row : Option Nat} {base : Nat} {e : TypeId} {size : Nat} {v : Value} {n : Nat} {xs : List Value} (h : W.ownsRow base e size v n xs) (hg : W.grownBy W' row) (hr : ∀ r, row = some r → ∃ o : Obj, W.heap[r]? = some o ∧ o.isCells = false) : W'.ownsRow base e size v n xs := by
  refine h.kept hg ?_
  rcases h.2 with ⟨rfl, _⟩ | ⟨g, cap, cur, rfl, _, hgb, _⟩
  · exact .inl rfl
  · refine .inr fun e' => ?_
    obtain ⟨o, ho, hc⟩ := hr g (by simpa [Value.ownBlock] using e'.symm)
    rw [hgb] at ho; cases ho; cases hc
theorem builderAt_own {T e : TypeId} {B b : Nat} {p : Value} {bs : List Value} {W W' : World} {row : Option Nat} (h : Lib.BuilderAt T e B b p bs W) (hg : W.grownBy W' row) (hr : ∀ r, row = some r → ∃ o : Obj, W.heap[r]? = some o ∧ o.isCells = false) : Lib.BuilderAt T e B b p bs W' := by
  obtain ⟨hB, v, hbk, hown, hne⟩ := h
  exact ⟨hB, v, (grownBy_keeps_cells hg hr hbk rfl).trans hbk, owns_own hown hg hr, hne⟩
theorem bld_own {B b : Nat} {l : List UInt8} {W W' : World} {row : Option Nat} (h : Bld B b l W) (hg : W.grownBy W' row) (hr : ∀ r, row = some r → ∃ o : Obj, W.heap[r]? = some o ∧ o.isCells = false) : Bld B b l W' :=
  h.elim (fun x => .inl (builderAt_own x hg hr)) (fun x => .inr (builderAt_own x hg hr))
theorem boxed_keep {B : Nat} {t : TypeId} {v : Value} {W W' : World} {row : Option Nat} (h : Boxed W B t v) (hg : W.grownBy W' row) (hr : ∀ r, row = some r → ∃ o : Obj, W.heap[r]? = some o ∧ o.isCells = false) : Boxed W' B t v :=
  (grownBy_keeps_cells hg hr h rfl).trans h
theorem chain_own {W W' : World} {row : Option Nat} (hg : W.grownBy W' row) (hr : ∀ r, row = some r → ∃ o : Obj, W.heap[r]? = some o ∧ o.isCells = false) : ∀ {cs : List ByteArray} {o : Option Int} {v : Value}, Chain W cs o v → Chain W' cs o v
  | [], some _, _, h => h
  | [], none, _, h => h
  | _ :: _, _, _, ⟨b, v', e, hl, h0, h1, h2⟩ => ⟨b, v', e, Nat.lt_of_lt_of_le hl hg.size, cell_kept h0 hg hr, cell_kept h1 hg hr, chain_own hg hr h2⟩
end Go.Proofs.YtfaieldafoeaiaaGreatDoor

/-
  parts of package label: the function that goes through a name's parts.
-/
namespace Go.Proofs.YtfaieldafoeaiaaGreatDoor
open Go.RowKit Go.Shelf

attribute [local go_sem] Oper.semAt_some

/-- A part: its turn, the slice, what it reads as. -/
structure PartI where
  turn : Nat
  addr : Option Addr
  len : Nat
  cap : Nat
  list : List Int
/-- A part that lies in w. -/
abbrev PartAt (w : World) : Type := { p : PartI // Runes w p.addr p.list ∧ Fit p.list ∧ p.list.length = p.len ∧ p.len ≤ p.cap ∧ p.turn ≤ 1400 }
/-- Their turns are 0, 1, 2 .. -/
def Turns {w : World} (xs : List (PartAt w)) : Prop := xs.map (·.1.turn) = List.range xs.length
theorem Turns.snoc {w : World} {xs : List (PartAt w)} {x : PartAt w} (h : Turns xs) (hx : x.1.turn = xs.length) : Turns (xs ++ [x]) := by
  unfold Turns at h ⊢
  rw [List.map_append, h, List.length_append, List.length_singleton, List.range_succ]
  simp [hx]

set_option maxHeartbeats 1000000 in
set_option maxRecDepth 100000 in
theorem parts_any (A : Option Addr) (n cap : Nat) (w : World) :
    Calls Tryz.prog 30 #[.slice A n cap] w fun e w' => e = .returned (.func (.func 66) #[] #[.pointer (some ⟨w.heap.size, 0, none⟩)]) ∧ w.alloc (.cells #[.slice A n cap] 22) = w' := by
  have hmf : ∀ (fn : Fn) (first cap : Array Value) (w : World), (Instr.makeFunc fn first cap).run Tryz.prog w = .ok (.func fn first cap) w := fun _ _ _ _ => rfl
  go_enter Tryz.func30, Tryz.ntmps30
  go_wp2
  go_ret
  exact ⟨rfl, rfl⟩

theorem dot_split {r : List Int} (h : (46 : Int) ∈ r) : ∃ a b, r = a ++ 46 :: b ∧ (46 : Int) ∉ a := by
  induction r with
  | nil => cases h
  | cons c r ih =>
    by_cases hc : c = 46
    · exact ⟨[], r, by rw [hc]; rfl, by simp⟩
    · obtain ⟨a, b, rfl, ha⟩ := ih (by rcases List.mem_cons.1 h with h | h; exact absurd h.symm hc; exact h)
      exact ⟨c :: a, b, rfl, by rw [List.mem_cons, not_or]; exact ⟨fun e => hc e.symm, ha⟩⟩

/-- What the iterator's loop holds. -/
def PartsRel (w0 : World) (l : List Int) (J : List (PartAt w0) → World → Prop) (v3 v4 : Value) (wr : World) : Prop :=
  ∃ (pre : List (PartAt w0)) (A : Option Addr) (r : List Int) (cap : Nat), v3 = .slice A r.length cap ∧ v4 = .int .i64 (pre.length : Int) ∧ pre.length + r.length ≤ l.length ∧ Runes w0 A r ∧ Fit r ∧ r.length ≤ cap ∧
    pre.map (·.1.list) ++ partsOf r = partsOf l ∧ Turns pre ∧ Below w0.heap.size w0 wr ∧ J pre wr

set_option maxHeartbeats 2000000 in
set_option maxRecDepth 100000 in
theorem parts1_in (n : Nat) (hn : 1 ≤ n) (lp Bn : Nat) (w0 : World) (A0 : Option Addr) (l : List Int) (cap0 : Nat) (J Jx : List (PartAt w0) → World → Prop) (W : World)
    (hY : ∀ pre x W1, J pre W1 → pre.length < l.length + 1 → YieldAt Fence.wide (n - 1) Tryz.prog lp #[.int .i64 x.1.turn, .slice x.1.addr x.1.len x.1.cap] W1 fun e W' =>
      (e = .returned (.bool true) ∧ J (pre ++ [x]) W' ∧ Below w0.heap.size W1 W') ∨ (e = .returned (.bool false) ∧ Jx (pre ++ [x]) W'))
    (hb : Below w0.heap.size w0 W) (hBn : W.cell? ⟨Bn, 0, none⟩ = some (.slice A0 l.length cap0)) (hr : Runes w0 A0 l) (hf : Fit l) (hcap : l.length ≤ cap0) (h0 : J [] W) :
    CallsIn Fence.wide n Tryz.prog 66 #[.func (.yield lp) #[] #[], .pointer (some ⟨Bn, 0, none⟩)] W fun e W' => (∃ v, e = .returned v) ∧
      ((∃ ys, (Turns ys ∧ ys.map (·.1.list) = partsOf l) ∧ J ys W') ∨ (∃ pre, (Turns pre ∧ pre.map (·.1.list) <+: partsOf l) ∧ Jx pre W')) := by
  have HY := Lib.hid hY
  have HR := Lib.hid hr
  have HF := Lib.hid hf
  have H0 := Lib.hid h0
  have hl14 := hf.len
  clear hY hr hf h0
  refine callsIn_of_wp Tryz.func66 rfl trivial ?_ rfl
  simp only [Tryz.ntmps66, List.size_toArray, List.length_cons, List.length_nil, Nat.reduceAdd, Nat.reduceSub, Array.replicate_succ, Array.replicate_zero, List.push_toArray, List.append_toArray, List.nil_append, List.cons_append]
  gi_wp2
  gi_loopw [3, 4] (fun v3 v4 wr => PartsRel w0 l J v3 v4 wr) (fun _ v4 _ => l.length + 1 - (intOf v4).toNat)
  case atStart => exact ⟨[], A0, l, cap0, rfl, rfl, by simp, HR.out, HF.out, hcap, rfl, rfl, hb, H0.out⟩
  case round =>
    obtain ⟨pre, A, r, cap, rfl, rfl, hlen, hru, hfi, hrc, hpa, htu, hbr, hJs⟩ := hrel
    have HRu := Lib.hid hru
    have HFi := Lib.hid hfi
    have HPa := Lib.hid hpa
    have HTu := Lib.hid htu
    have HJs := Lib.hid hJs
    clear hru hfi hpa htu hJs
    by_cases hd : (46 : Int) ∈ r
    · obtain ⟨a, b, rfl, ha⟩ := dot_split hd
      have HP1 := Lib.hid (show partsOf (a ++ 46 :: b) = a :: partsOf b by rw [partsOf_append, partsOf_none ha]; rfl)
      have hrl : (a ++ 46 :: b).length = a.length + b.length + 1 := by rw [List.length_append, List.length_cons]; omega
      have HI := Lib.hid (indexDot_any A (a ++ 46 :: b) cap wr (HRu.out.below hbr) (by omega))
      rw [dotAt_here (k := a.length) (by rw [hrl]; omega) (by simp) (fun c hc e => ha (by rw [List.take_left] at hc; rw [← e]; exact hc))] at HI
      obtain ⟨bk, off, rfl, _, _⟩ := HRu.out 0 (a ++ 46 :: b)[0] (List.getElem?_eq_getElem (by rw [hrl]; omega))
      have hRa : Runes w0 (some ⟨bk, off, none⟩) a := fun i c hc => HRu.out i c (by rw [List.getElem?_append_left (List.getElem?_eq_some_iff.1 hc).1]; exact hc)
      have HRb : Hid (Runes w0 (some ⟨bk, off + (a.length + 1), none⟩) b) := by
        intro i c hc
        obtain ⟨b', off', e, h1, h2⟩ := HRu.out (a.length + 1 + i) c (by rw [List.getElem?_append_right (by omega), show a.length + 1 + i - a.length = i + 1 by omega, List.getElem?_cons_succ]; exact hc)
        cases e
        exact ⟨_, _, rfl, h1, by rw [Nat.add_assoc]; exact h2⟩
      have hFa : Fit a := HFi.out.sub (fun c hc => List.mem_append_left _ hc) (by omega)
      have HFb := Lib.hid (show Fit b from HFi.out.sub (fun c hc => List.mem_append_right _ (List.mem_cons_of_mem _ hc)) (by omega))
      obtain ⟨x, hx⟩ : ∃ x : PartAt w0, x.1 = ⟨pre.length, some ⟨bk, off, none⟩, a.length, cap, a⟩ := ⟨⟨_, hRa, hFa, rfl, by show a.length ≤ cap; omega, by show pre.length ≤ 1400; omega⟩, rfl⟩
      obtain ⟨fn, tmps, assign, body, hy, hR⟩ := HY.out pre x wr HJs.out (by omega)
      rw [hx] at hy
      dsimp only at hy
      have HX := Lib.hid hx
      clear hx
      have HRL := Lib.hid hrl
      obtain ⟨m, hm⟩ : ∃ m, (a ++ 46 :: b).length = m := ⟨_, rfl⟩
      rw [hm] at hrl hlen hrc HI HRL ⊢
      have hm2 : a.length + 1 ≤ m := by omega
      clear hd ha hRa hFa hm hrl
      gi_wp2_with (refine ⟨trivial, ?_⟩; gi_at_call 67; refine (callsIn_wide.2 HI.out).mono ?_; rintro e w' ⟨rfl, rfl⟩)
      refine hR.mono ?_
      clear hR hy
      rintro e W3 (⟨rfl, hJ3, hk3⟩ | ⟨rfl, hJx3⟩)
      · have HJ3 := Lib.hid hJ3
        have HK3 := Lib.hid hk3
        clear hJ3 hk3
        by_cases hcp : cap = a.length + 1
        · subst hcp
          gi_wp2
          go_roundw
          case rel =>
            have hb0 : b = [] := List.eq_nil_of_length_eq_zero (by have := HRL.out; omega)
            subst hb0
            exact ⟨pre ++ [x], _, [], 0, rfl, by rw [List.length_append]; rfl, by rw [List.length_append]; simp; omega, Runes.nil_, HFb.out, Nat.le_refl _, by rw [List.map_append, List.map_singleton, HX.out, ← HPa.out, HP1.out]; simp, HTu.out.snoc (by rw [HX.out]), hbr.trans HK3.out, HJ3.out⟩
          case measure => simp [intOf]; omega
        · gi_wp2
          go_roundw
          case rel =>
            have hml : m - (a.length + 1) = b.length := by have := HRL.out; omega
            rw [hml]
            exact ⟨pre ++ [x], _, b, _, rfl, by rw [List.length_append]; rfl, by have := HRL.out; rw [List.length_append, List.length_singleton]; omega, HRb.out, HFb.out, by have := HRL.out; omega, by rw [List.map_append, List.map_singleton, HX.out, ← HPa.out, HP1.out]; simp, HTu.out.snoc (by rw [HX.out]), hbr.trans HK3.out, HJ3.out⟩
          case measure => simp [intOf]; omega
      · gi_wp2
        refine bodyPost_ret (results_none rfl _ _ _) rfl ?_
        exact ⟨⟨_, rfl⟩, .inr ⟨_, ⟨HTu.out.snoc (by rw [HX.out]), by rw [List.map_append, ← HPa.out, HP1.out, List.map_singleton, HX.out]; exact ⟨partsOf b, by simp⟩⟩, hJx3⟩⟩
    · have HI := Lib.hid (indexDot_any A r cap wr (HRu.out.below hbr) (by omega))
      rw [dotAt_none (fun c hc e => hd (by rw [← e]; exact hc))] at HI
      have HP1 := Lib.hid (partsOf_none hd)
      clear hd
      obtain ⟨x, hx⟩ : ∃ x : PartAt w0, x.1 = ⟨pre.length, A, r.length, cap, r⟩ := ⟨⟨_, HRu.out, HFi.out, rfl, hrc, by show pre.length ≤ 1400; omega⟩, rfl⟩
      obtain ⟨fn, tmps, assign, body, hy, hR⟩ := HY.out pre x wr HJs.out (by omega)
      rw [hx] at hy
      dsimp only at hy
      have HX := Lib.hid hx
      clear hx
      gi_wp2_with (refine ⟨trivial, ?_⟩; gi_at_call 67; refine (callsIn_wide.2 HI.out).mono ?_; rintro e w' ⟨rfl, rfl⟩)
      refine hR.mono ?_
      clear hR hy
      rintro e W3 (⟨rfl, hJ3, hk3⟩ | ⟨rfl, hJx3⟩)
      · gi_wp2
        refine bodyPost_ret (results_none rfl _ _ _) rfl ?_
        exact ⟨⟨_, rfl⟩, .inl ⟨_, ⟨HTu.out.snoc (by rw [HX.out]), by rw [List.map_append, ← HPa.out, HP1.out, List.map_singleton, HX.out]⟩, hJ3⟩⟩
      · gi_wp2
        refine bodyPost_ret (results_none rfl _ _ _) rfl ?_
        exact ⟨⟨_, rfl⟩, .inr ⟨_, ⟨HTu.out.snoc (by rw [HX.out]), by rw [List.map_append, ← HPa.out, HP1.out, List.map_singleton, HX.out]; exact List.prefix_refl _⟩, hJx3⟩⟩

theorem parts_stops (n : Nat) (hn : 1 ≤ n) (Bn : Nat) (w0 : World) (A0 : Option Addr) (l : List Int) (cap0 : Nat) (w : World) (hb : Below w0.heap.size w0 w) (hBn : Bn < w.heap.size)
    (hc : w.cell? ⟨Bn, 0, none⟩ = some (.slice A0 l.length cap0)) (hr : Runes w0 A0 l) (hf : Fit l) (hcap : l.length ≤ cap0) :
    SeqStopsK Fence.wide n Tryz.prog 66 #[.pointer (some ⟨Bn, 0, none⟩)] (fun x : PartAt w0 => #[Value.int .i64 (x.1.turn : Int), Value.slice x.1.addr x.1.len x.1.cap]) (Below w0.heap.size) (fun ys => Turns ys ∧ ys.map (·.1.list) = partsOf l) (fun pre => Turns pre ∧ pre.map (·.1.list) <+: partsOf l) (l.length + 1) w := fun lp J Jx W hW _ _ hY h0 =>
  parts1_in n hn lp Bn w0 A0 l cap0 J Jx W hY (hb.trans (hW.mono hb.size)) ((hW.cell (p := ⟨Bn, 0, none⟩) hBn).trans hc) hr hf hcap h0
end Go.Proofs.YtfaieldafoeaiaaGreatDoor

/-
  All of package label does as the document says.
-/
namespace Go.Proofs.YtfaieldafoeaiaaGreatDoor
open Go.RowKit Go.Shelf

attribute [local go_sem] Oper.semAt_some

theorem wrap6_p (cs : List ByteArray) (n : Int) (u : TypeId) (x : Value) (w : World) (hch : Chain w cs (some n) (.iface u x)) :
    Calls Tryz.prog 19 #[.iface u x] w fun e w' => e = .returned (.iface 108 (.pointer (some ⟨w.heap.size, 0, none⟩))) ∧ ∃ cs, Chain w' cs (some n) (.iface 108 (.pointer (some ⟨w.heap.size, 0, none⟩))) ∧ Below w.heap.size w w' := by
  have HC := Lib.hid hch
  clear hch
  go_enter Tryz.func19, Tryz.ntmps19
  go_wp2_with (go_at_call 43; refine (wrap_held _ _ _ _).mono ?_; rintro e w' ⟨rfl, rfl⟩)
  go_ret
  exact ⟨rfl, _, HC.out.lay _, (Below.refl _ _).alloc (Nat.le_refl _) _⟩

/-- The two results' boxes, as they are laid. -/
def Two (s : Nat) (W : World) : Prop := Boxed W s 9 (.string ⟨#[]⟩) ∧ Boxed W (s + 1) 25 .nilIface
theorem Two.new (w : World) : Two w.heap.size ((w.alloc (.cells #[.string ⟨#[]⟩] 9)).alloc (.cells #[.nilIface] 25)) := by
  have h := Boxed.new (w.alloc (.cells #[.string ⟨#[]⟩] 9)) 25 .nilIface
  rw [World.size_alloc] at h
  exact ⟨(Boxed.new w 9 (.string ⟨#[]⟩)).alloc _, h⟩
theorem Two.below {s n : Nat} {W W' : World} (h : Two s W) (hb : Below n W W') (hn : s + 1 < n) : Two s W' := ⟨(hb.block s (by omega)).trans h.1, (hb.block (s + 1) hn).trans h.2⟩
theorem Two.cells {s : Nat} {W : World} (h : Two s W) : (W.cell? ⟨s, 0, none⟩ = some (.string ⟨#[]⟩) ∧ W.frozen? ⟨s, 0, none⟩ = false) ∧ W.cell? ⟨s + 1, 0, none⟩ = some .nilIface ∧ W.frozen? ⟨s + 1, 0, none⟩ = false := ⟨⟨h.1.cell, h.1.frozen⟩, h.2.cell, h.2.frozen⟩

theorem boxed_one {W : World} {B : Nat} {t : TypeId} {v : Value} (h : Boxed W B t v) : W.cell? ⟨B, 1, none⟩ = none := by simp [World.cell?, show W.heap[B]? = _ from h]
/-- A box's cell is none of a chain's. -/
theorem chain_box {W : World} {B : Nat} {t : TypeId} {v : Value} (hB : Boxed W B t v) (u : Value) : ∀ {cs : List ByteArray} {o : Option Int} {x : Value}, Chain W cs o x → Chain (W.setCell ⟨B, 0, none⟩ u) cs o x
  | [], some _, _, h => h
  | [], none, _, h => h
  | _ :: _, _, _, ⟨b, v', e, hl, h0, h1, h2⟩ => by
    have hne : b ≠ B := by
      rintro rfl
      rw [boxed_one hB] at h1
      cases h1
    exact ⟨b, v', e, by simpa [World.setCell] using hl, (World.cell?_setCell_other _ _ _ _ (by intro e; cases e; exact hne rfl)).trans h0, (World.cell?_setCell_other _ _ _ _ (by intro e; cases e)).trans h1, chain_box hB u h2⟩
theorem boxed_other {W : World} {B C : Nat} {t : TypeId} {v : Value} (h : Boxed W B t v) (hne : B ≠ C) (u : Value) : Boxed (W.setCell ⟨C, 0, none⟩ u) B t v := (Below.heap_setCell _ _ _ B hne).trans h
/-- Both results' boxes, once they are written. -/
theorem Two.put {s : Nat} {W : World} (h : Two s W) (a b : Value) : Boxed ((W.setCell ⟨s, 0, none⟩ a).setCell ⟨s + 1, 0, none⟩ b) s 9 a ∧ Boxed ((W.setCell ⟨s, 0, none⟩ a).setCell ⟨s + 1, 0, none⟩ b) (s + 1) 25 b :=
  ⟨boxed_other (h.1.set a) (by omega) _, (boxed_other h.2 (by omega) _).set b⟩
theorem Two.chain {s : Nat} {W : World} (h : Two s W) (a b : Value) {cs : List ByteArray} {o : Option Int} {x : Value} (hc : Chain W cs o x) : Chain ((W.setCell ⟨s, 0, none⟩ a).setCell ⟨s + 1, 0, none⟩ b) cs o x :=
  chain_box (boxed_other h.2 (by omega) _) b (chain_box h.1 a hc)

set_option maxHeartbeats 4000000 in
set_option maxRecDepth 100000 in
theorem all_bad_p (A : Option Addr) (l : List Int) (cap : Nat) (w : World) (hv : Vars w) (hg : ∀ c ∈ l, R32 c) (hr : Runes w A l) (hl : l.length ≤ 1400) (hf : foldL l = none) :
    Calls Tryz.prog 10 #[.slice A l.length cap] w (TextPost 2 [] w) := by
  have HFo : Hid (∀ w1, Below w.heap.size w w1 → Calls Tryz.prog 29 #[.slice A l.length cap] w1 (FoldPost none w1)) := by
    intro w1 hb
    have := fold_p A l cap w1 (hv.below hb) hg (hr.below hb) hl
    rwa [hf] at this
  clear hv hg hr hf
  refine (callsIn_wide (n := 3)).1 ?_
  refine callsIn_of_wp_marks Tryz.func10 rfl trivial ?_ rfl
  simp only [Tryz.ntmps10, List.size_toArray, List.length_cons, List.length_nil, Nat.reduceAdd, Nat.reduceSub, Array.replicate_succ, Array.replicate_zero, List.push_toArray, List.append_toArray, List.nil_append, List.cons_append]
  have hW : Below w.heap.size w ((w.alloc (.cells #[.string ⟨#[]⟩] 9)).alloc (.cells #[.nilIface] 25)) := ((Below.refl _ w).alloc (Nat.le_refl _) _).alloc (by simp) _
  have HW := Lib.hid hW
  clear hW
  gi_wp2_with (first
    | (refine ⟨trivial, ?_⟩; gi_at_call 29; refine (callsIn_wide.2 (HFo.out _ HW.out)).mono ?_; rintro e w1 ⟨cs, u, x, rfl, hch, hb⟩; have HCh := Lib.hid hch; have hz : w.heap.size + 1 < w1.heap.size := (by have := hb.size; simp at this; omega); have HT := Lib.hid ((Two.new w).below hb (by simp)); have HB := Lib.hid (HW.out.trans (hb.mono (by simp; omega))); clear hch hb)
    | (refine ⟨trivial, ?_⟩; gi_at_call 19; refine (callsIn_wide.2 (wrap6_p cs 2 u x _ HCh.out)).mono ?_; rintro e w2 ⟨rfl, cs2, hch, hb⟩; have HCh2 := Lib.hid hch; have HT2 := Lib.hid (HT.out.below hb hz); obtain ⟨⟨hc0, hf0⟩, hc1, hf1⟩ := HT2.out.cells; have HB := Lib.hid (bnext HB.out hb); clear hch hb))
  have hP := HT2.out.put (.string ⟨#[]⟩) (.iface 108 (.pointer (some ⟨w1.heap.size, 0, none⟩)))
  have hd0 := hP.1.cell
  have hd1 := hP.2.cell
  refine ⟨.tuple #[.string ⟨#[]⟩, .iface 108 (.pointer (some ⟨w1.heap.size, 0, none⟩))], ?_, text_two rfl (HT2.out.chain _ _ HCh2.out) ?_⟩
  · simp [results, Tryz.f10, go_sem, hd0, hd1]
  · exact (HB.out.setCell (p := ⟨w.heap.size, 0, none⟩) (Nat.le_refl _) _).setCell (p := ⟨w.heap.size + 1, 0, none⟩) (by simp) _

/-! A name with parts. -/
/-- What the builder holds behind some parts: each told, with a dot ahead but for turn 0. -/
def glue : List Nat → List (List UInt8) → List UInt8
  | t :: ts, x :: xs => (if 0 < t then 46 :: x else x) ++ glue ts xs
  | _, _ => []
def Told6 {w : World} (pre : List (PartAt w)) (bs : List UInt8) : Prop := ∃ xs, mapOne (pre.map (·.1.list)) = some xs ∧ bs = glue (pre.map (·.1.turn)) xs
theorem mapOne_len : ∀ {ps : List (List Int)} {xs : List (List UInt8)}, mapOne ps = some xs → xs.length = ps.length := by
  intro ps
  induction ps with
  | nil => intro xs h; cases h; rfl
  | cons p ps ih =>
    intro xs h
    unfold mapOne at h
    cases hp : lone p with
    | none => rw [hp] at h; cases h
    | some x =>
      cases hq : mapOne ps with
      | none => rw [hp, hq] at h; cases h
      | some ys =>
        rw [hp, hq] at h
        cases h
        simp [ih hq]
theorem glue_snoc : ∀ (ts : List Nat) (xs : List (List UInt8)) (t : Nat) (x : List UInt8), ts.length = xs.length → glue (ts ++ [t]) (xs ++ [x]) = glue ts xs ++ (if 0 < t then 46 :: x else x) := by
  intro ts
  induction ts with
  | nil => intro xs t x h; cases xs with
    | nil => simp [glue]
    | cons y ys => cases h
  | cons s ts ih => intro xs t x h; cases xs with
    | nil => cases h
    | cons y ys => simp only [List.cons_append, glue]; rw [ih ys t x (by simpa using h), List.append_assoc]
theorem Told6.snoc {w : World} {pre : List (PartAt w)} {bs : List UInt8} {x : PartAt w} {y : List UInt8} (h : Told6 pre bs) (hx : lone x.1.list = some y) : Told6 (pre ++ [x]) (bs ++ (if 0 < x.1.turn then 46 :: y else y)) := by
  obtain ⟨xs, h1, rfl⟩ := h
  refine ⟨xs ++ [y], ?_, ?_⟩
  · rw [List.map_append, mapOne_append, h1]
    simp [mapOne, hx]
  · have hl := mapOne_len h1
    rw [List.map_append, List.map_singleton, glue_snoc _ _ _ _ (by rw [hl]; simp)]
theorem mapOne_no {a b : List (List Int)} (h : mapOne a = none) : mapOne (a ++ b) = none := by
  rw [mapOne_append, h]
theorem mapOne_last {a : List (List Int)} {q : List Int} (h : lone q = none) : mapOne (a ++ [q]) = none := by
  rw [mapOne_append]
  cases mapOne a <;> simp [mapOne, h]
theorem glue_range : ∀ (xs : List (List UInt8)) (k : Nat), 0 < k → glue (List.range' k xs.length) xs = (xs.map (fun x => 46 :: x)).flatten := by
  intro xs
  induction xs with
  | nil => intro k _; rfl
  | cons x xs ih =>
    intro k hk
    simp only [List.length_cons, List.range'_succ, glue, List.map_cons, List.flatten_cons]
    rw [if_pos hk, ih (k + 1) (by omega)]
theorem join_flat : ∀ (xs : List (List UInt8)) (x : List UInt8), joinB (x :: xs) = x ++ (xs.map (fun x => 46 :: x)).flatten := by
  intro xs
  induction xs with
  | nil => intro x; simp [joinB]
  | cons y ys ih =>
    intro x
    rw [joinB_cons _ (by simp), ih y]
    simp
theorem glue_join (xs : List (List UInt8)) : glue (List.range xs.length) xs = joinB xs := by
  cases xs with
  | nil => rfl
  | cons x xs =>
    rw [List.range_eq_range', List.length_cons, List.range'_succ, join_flat]
    simp only [glue]
    rw [if_neg (by omega), glue_range xs (0 + 1) (by omega)]
theorem Told6.all {w : World} {ys : List (PartAt w)} {bs : List UInt8} {l : List Int} (h : Told6 ys bs) (ht : Turns ys) (hp : ys.map (·.1.list) = partsOf l) : ∃ xs, mapOne (partsOf l) = some xs ∧ bs = joinB xs := by
  obtain ⟨xs, h1, rfl⟩ := h
  rw [hp] at h1
  refine ⟨xs, h1, ?_⟩
  have hl := mapOne_len h1
  rw [show ys.map (·.1.turn) = List.range xs.length by rw [show ys.map (·.1.turn) = List.range ys.length from ht, hl, ← hp, List.length_map]]
  exact glue_join xs
/-- How long a part is told as. -/
theorem lone_len3 {l : List Int} {x : List UInt8} (h : lone l = some x) (hf : Fit l) : x.length ≤ 3000 := by
  rcases hf.2 with hl | ⟨hp, hl⟩
  · have := lone_len2 h hl; omega
  · by_cases hs : ∀ c ∈ l, scal c = true
    · have he := enc_plain_len hs hp
      by_cases hx : l.take 4 = xnI
      · rw [lone_xn hs hx] at h
        split at h
        · cases h; omega
        · cases h
      · rw [lone_plain hs hx hp] at h; cases h; omega
    · rw [lone_bad hs] at h; cases h
theorem Told6.len {w : World} {pre : List (PartAt w)} {bs : List UInt8} (h : Told6 pre bs) : bs.length ≤ 3001 * pre.length := by
  obtain ⟨xs, h1, rfl⟩ := h
  induction pre generalizing xs with
  | nil => simp [glue]
  | cons p pre ih =>
    rw [List.map_cons] at h1 ⊢
    unfold mapOne at h1
    cases hp : lone p.1.list with
    | none => rw [hp] at h1; cases h1
    | some x =>
      cases hq : mapOne (pre.map (·.1.list)) with
      | none => rw [hp, hq] at h1; cases h1
      | some ys =>
        rw [hp, hq] at h1
        cases h1
        have := ih ys hq
        have hx := lone_len3 hp p.2.2.1
        simp only [glue, List.length_append, List.length_cons]
        split
        · rw [List.length_cons]; omega
        · omega

theorem partsOf_len (l : List Int) : (partsOf l).length ≤ l.length + 1 := by
  induction l with
  | nil => simp [partsOf]
  | cons c l ih =>
    unfold partsOf
    split
    · simp only [List.length_cons]; omega
    · cases hp : partsOf l with
      | nil => exact absurd hp (partsOf_ne l)
      | cons p ps =>
        rw [hp] at ih
        simp only [List.length_cons] at ih ⊢
        omega
theorem no_cells {W : World} {D : Nat} (hK : W.heap[D]? = some (.deferred (some []))) : ∀ r, some D = some r → ∃ o : Obj, W.heap[r]? = some o ∧ o.isCells = false := fun r e => by cases e; exact ⟨_, hK, rfl⟩
/-- What holds between two rounds. -/
structure Mid (w w1 : World) (pre : List (PartAt w1)) (W : World) : Prop where
  two : Two w.heap.size W
  tells : ∃ bs, Told6 pre bs ∧ Bld w1.heap.size w1.heap.size bs W
  old : Below w.heap.size w W
  part : Below w1.heap.size w1 W
/-- What holds where a part may not be. -/
structure Bad (w w1 : World) (pre : List (PartAt w1)) (W : World) : Prop where
  cells : ∃ cs u x, Boxed W w.heap.size 9 (.string ⟨#[]⟩) ∧ Boxed W (w.heap.size + 1) 25 (.iface u x) ∧ Chain W cs (some 2) (.iface u x)
  none_ : mapOne (pre.map (·.1.list)) = none
  old : Below w.heap.size w W
theorem Mid.own {w w1 : World} {B : Nat} (h1 : w.heap.size ≤ B) (h2 : w1.heap.size ≤ B) : OwnFrom B (fun (pre : List (PartAt w1)) W => Mid w w1 pre W) := by
  intro s W W' row h hg hr
  have hr' : ∀ r, row = some r → ∃ o : Obj, W.heap[r]? = some o ∧ o.isCells = false := fun r e => (hr r e).2
  obtain ⟨bs, hb1, hb2⟩ := h.tells
  exact ⟨⟨boxed_keep h.two.1 hg hr', boxed_keep h.two.2 hg hr'⟩, ⟨bs, hb1, bld_own hb2 hg hr'⟩, h.old.grown hg h.old.size (fun k e => Nat.le_trans h1 (hr k e).1), h.part.grown hg h.part.size (fun k e => Nat.le_trans h2 (hr k e).1)⟩
theorem Bad.own {w w1 : World} {B : Nat} (h1 : w.heap.size ≤ B) : OwnFrom B (fun (pre : List (PartAt w1)) W => Bad w w1 pre W) := by
  intro s W W' row h hg hr
  have hr' : ∀ r, row = some r → ∃ o : Obj, W.heap[r]? = some o ∧ o.isCells = false := fun r e => (hr r e).2
  obtain ⟨cs, u, x, h2, h3, h4⟩ := h.cells
  exact ⟨⟨cs, u, x, boxed_keep h2 hg hr', boxed_keep h3 hg hr', chain_own hg hr' h4⟩, h.none_, h.old.grown hg h.old.size (fun k e => Nat.le_trans h1 (hr k e).1)⟩

set_option maxHeartbeats 8000000 in
set_option maxRecDepth 100000 in
theorem all_good_p (PC : PunyC) (A : Option Addr) (l : List Int) (cap : Nat) (w : World) (hv : Vars w) (hg : ∀ c ∈ l, R32 c) (hr : Runes w A l) (hl : l.length ≤ 1400) (f : List Int) (hf : foldL l = some f) (hfit : Fit f) :
    Calls Tryz.prog 10 #[.slice A l.length cap] w (TextPost (lall l).1 (lall l).2 w) := by
  have HFo : Hid (∀ w1, Below w.heap.size w w1 → Calls Tryz.prog 29 #[.slice A l.length cap] w1 (FoldPost (some f) w1)) := by
    intro w1 hb
    have := fold_p A l cap w1 (hv.below hb) hg (hr.below hb) hl
    rwa [hf] at this
  have hf14 := hfit.len
  have HFit := Lib.hid hfit
  have HV := Lib.hid hv
  have HPC := Lib.hid PC
  obtain ⟨R, hR⟩ : ∃ R, lall l = R := ⟨_, rfl⟩
  have HL : Hid (match mapOne (partsOf f) with
    | none => R = (2, [])
    | some ps => R = if joinB ps = [] then (3, []) else (0, joinB ps)) := by
    show match mapOne (partsOf f) with
      | none => R = (2, [])
      | some ps => R = if joinB ps = [] then (3, []) else (0, joinB ps)
    rw [← hR]
    unfold lall
    cases hm : mapOne (partsOf f) <;> simp only [hf, hm]
  rw [hR]
  clear hv hg hr hf hfit PC hR
  refine (callsIn_wide (n := 3)).1 ?_
  refine callsIn_of_wp_marks Tryz.func10 rfl trivial ?_ rfl
  simp only [Tryz.ntmps10, List.size_toArray, List.length_cons, List.length_nil, Nat.reduceAdd, Nat.reduceSub, Array.replicate_succ, Array.replicate_zero, List.push_toArray, List.append_toArray, List.nil_append, List.cons_append]
  have hW : Below w.heap.size w ((w.alloc (.cells #[.string ⟨#[]⟩] 9)).alloc (.cells #[.nilIface] 25)) := ((Below.refl _ w).alloc (Nat.le_refl _) _).alloc (by simp) _
  have HW := Lib.hid hW
  clear hW
  gi_wp2_with (first
    | (refine ⟨trivial, ?_⟩; gi_at_call 29; refine (callsIn_wide.2 (HFo.out _ HW.out)).mono ?_; rintro e w1 ⟨A1, c1, rfl, hr1, hc1, hb⟩; have hz : w.heap.size + 1 < w1.heap.size := (by have := hb.size; simp at this; omega); have HT := Lib.hid ((Two.new w).below hb (by simp)); have HR1 := Lib.hid hr1; have HB := Lib.hid (HW.out.trans (hb.mono (by simp; omega))); have HC1 := Lib.hid hc1; clear hr1 hb hc1)
    | (refine ⟨trivial, ?_⟩; gi_at_call 30; refine (callsIn_wide.2 (parts_any _ _ _ _)).mono ?_; rintro e w' ⟨rfl, rfl⟩))
  have bN := Boxed.new (w1.alloc (.cells #[.pointer none, .slice none 0 0] 51)) 22 (.slice A1 f.length c1)
  rw [World.size_alloc] at bN
  have hb3 : Below w1.heap.size w1 ((w1.alloc (.cells #[.pointer none, .slice none 0 0] 51)).alloc (.cells #[.slice A1 f.length c1] 22)) := ((Below.refl _ w1).alloc (Nat.le_refl _) _).alloc (by simp) _
  have hm0 : Mid w w1 [] ((w1.alloc (.cells #[.pointer none, .slice none 0 0] 51)).alloc (.cells #[.slice A1 f.length c1] 22)) := by
    refine ⟨HT.out.below hb3 hz, ⟨[], ⟨[], rfl, rfl⟩, ?_⟩, HB.out.trans (hb3.mono HB.out.size), hb3⟩
    exact Bld.below (Lib.fresh_isBuilder 51 5 w1) ((Below.refl _ _).alloc (Nat.le_refl _) _)
  have HB3 := Lib.hid hb3
  have HM0 := Lib.hid hm0
  have HBN := Lib.hid bN
  clear hb3 hm0 bN
  refine wpIn_rangeFunc_ownG rfl (by omega) (gf := 66) (lb := #[.pointer (some ⟨w1.heap.size + 1, 0, none⟩)]) rfl trivial (enters_of Tryz.func66 (by kernel_rfl) rfl)
    (parts_stops 2 (by omega) (w1.heap.size + 1) w1 A1 f c1 _ HB3.out (by simp) HBN.out.cell HR1.out HFit.out HC1.out.1) belowK_t (belowK_b (by simp; omega)) (Below.refl _ _) (fun _ => rfl)
    (fun pre W => Mid w w1 pre W) (fun c pre W => c = .ret ∧ Bad w w1 pre W)
    (Mid.own (by simp; omega) (by simp; omega)) (fun c => OwnFrom.and (ownFrom_pure _ (fun _ => c = .ret)) (Bad.own (by simp; omega))) HM0.out
    (fun x => { tmps := #[.slice A l.length cap, undef, .pointer (some ⟨w.heap.size, 0, none⟩), .pointer (some ⟨w.heap.size + 1, 0, none⟩), .slice A1 f.length c1, .nilIface, .pointer (some ⟨w1.heap.size, 0, none⟩), .int .i64 x.1.turn, .slice x.1.addr x.1.len x.1.cap, undef, undef, .tuple #[.slice A1 f.length c1, .nilIface], .slice A l.length cap, .tuple #[.slice A1 f.length c1, .nilIface], .slice A1 f.length c1, .nilIface, .nilIface, .bool false, undef, undef, .slice A1 f.length c1, .func (.func 66) #[] #[.pointer (some ⟨w1.heap.size + 1, 0, none⟩)], .int .i64 x.1.turn, .slice x.1.addr x.1.len x.1.cap, undef, undef, undef, undef, undef, undef, undef, undef, undef, undef, undef, undef, undef, undef, undef, undef, undef, undef], defers := [] }) ?assign ?body ?done ?stop
  case assign =>
    intro l x W K hK
    gi_wp2
    exact hK
  case body =>
    rintro lp pre x W hmid hlt
    have hOne : Calls Tryz.prog 7 #[.slice x.1.addr x.1.len x.1.cap] W (TextPost (oneNo (lone x.1.list)) ((lone x.1.list).getD []) W) := by
      have := one_p HPC.out x.1.addr x.1.list x.1.cap W (HV.out.below hmid.old) (x.2.1.below hmid.part) x.2.2.1 (by rw [x.2.2.2.1]; exact x.2.2.2.2.1)
      rwa [x.2.2.2.1] at this
    have HMid := Lib.hid hmid
    have hpl : pre.length ≤ 1400 := by omega
    have hws := hmid.part.size
    clear hmid
    cases hx : lone x.1.list with
    | none =>
      rw [hx] at hOne
      have HNo := Lib.hid (show mapOne ((pre ++ [x]).map (·.1.list)) = none by rw [List.map_append]; exact mapOne_last hx)
      have HOne := Lib.hid hOne
      clear hx hOne
      gi_wp2_with (refine ⟨trivial, ?_⟩; gi_at_call 7; refine (CallsIn.inRound lp (callsIn_wide.2 HOne.out)).mono ?_; rintro e w2 ⟨cs, u, xx, rfl, hch, hb⟩; have HCh := Lib.hid hch; have HT2 := Lib.hid (HMid.out.two.below hb (by omega)); obtain ⟨⟨hc0, hf0⟩, hc1, hf1⟩ := HT2.out.cells; have HB2 := Lib.hid hb; clear hch hb)
      have hP := HT2.out.put (.string ⟨#[]⟩) (.iface u xx)
      refine ⟨((keeps_below HB2.out).trans ((KeepsOthers.setCell _ _ _).trans (KeepsOthers.setCell _ _ _))).from _, rfl, ⟨cs, u, xx, hP.1, hP.2, HT2.out.chain _ _ HCh.out⟩, HNo.out, ?_⟩
      exact ((bnext HMid.out.old HB2.out).setCell (p := ⟨w.heap.size, 0, none⟩) (Nat.le_refl _) _).setCell (p := ⟨w.heap.size + 1, 0, none⟩) (by simp) _
    | some y =>
      rw [hx] at hOne
      have hyl := lone_len3 hx x.2.2.1
      obtain ⟨bs, hts, hbl⟩ := HMid.out.tells
      have hbsl := hts.len
      have HTs := Lib.hid (hts.snoc hx)
      obtain ⟨yb, hyb⟩ : ∃ yb : ByteArray, yb = ⟨y.toArray⟩ := ⟨_, rfl⟩
      have hys : yb.size ≤ 3000 := by rw [hyb]; show y.toArray.size ≤ _; simpa using hyl
      have HYB : Hid (yb.data.toList = y) := by
        show yb.data.toList = y
        rw [hyb]
      have hOne2 : Calls Tryz.prog 7 #[.slice x.1.addr x.1.len x.1.cap] W fun e w' => e = .returned (.tuple #[.string yb, .nilIface]) ∧ Below W.heap.size W w' := by
        rw [hyb]
        exact hOne
      have HOne := Lib.hid hOne2
      have HBl := Lib.hid hbl
      clear hx hOne hOne2 hts hbl hyb hyl
      by_cases ht : 0 < x.1.turn
      · rw [if_pos ht] at HTs
        gi_wp2_with (first
          | (refine ⟨trivial, ?_⟩; gi_at_call 7; refine (CallsIn.inRound lp (callsIn_wide.2 HOne.out)).mono ?_; rintro e w2 ⟨rfl, hb⟩; have HBl2 := Lib.hid (HBl.out.below hb); have hz2 : w1.heap.size ≤ w2.heap.size := (Nat.le_trans hws hb.size); have HB2 := Lib.hid hb; clear hb)
          | (refine ⟨trivial, ?_⟩; gi_at_call 31; refine (CallsIn.inRound lp (callsIn_wide.2 (bldk_byte w1.heap.size w1.heap.size bs 46 46 _ HBl2.out rfl (by omega) hz2))).mono ?_; rintro e w3 ⟨rfl, hbl3, hb3, hk3⟩; have HBl3 := Lib.hid hbl3; have hz3 : w1.heap.size ≤ w3.heap.size := (Nat.le_trans hz2 hb3.size); have HB3 := Lib.hid hb3; have HK3 := Lib.hid hk3; clear hbl3 hb3 hk3)
          | (refine ⟨trivial, ?_⟩; gi_at_call 32; refine (CallsIn.inRound lp (callsIn_wide.2 (bldk_text w1.heap.size w1.heap.size (bs ++ [46]) yb _ HBl3.out (by rw [List.length_append, List.length_singleton]; omega) hz3))).mono ?_; rintro e w4 ⟨rfl, hbl4, hb4, hk4⟩; have HBl4 := Lib.hid hbl4; have HB4 := Lib.hid hb4; have HK4 := Lib.hid hk4; clear hbl4 hb4 hk4))
        have hB1 : Below w1.heap.size W w4 := ((HB2.out.mono hws).trans HB3.out).trans HB4.out
        refine ⟨(((keeps_below HB2.out).trans HK3.out).trans HK4.out).from _, hB1, HMid.out.two.below hB1 hz, ⟨_, HTs.out, ?_⟩, HMid.out.old.trans (hB1.mono (by omega)), HMid.out.part.trans hB1⟩
        have := HBl4.out
        rw [HYB.out, List.append_assoc] at this
        exact this
      · rw [if_neg ht] at HTs
        gi_wp2_with (first
          | (refine ⟨trivial, ?_⟩; gi_at_call 7; refine (CallsIn.inRound lp (callsIn_wide.2 HOne.out)).mono ?_; rintro e w2 ⟨rfl, hb⟩; have HBl2 := Lib.hid (HBl.out.below hb); have hz2 : w1.heap.size ≤ w2.heap.size := (Nat.le_trans hws hb.size); have HB2 := Lib.hid hb; clear hb)
          | (refine ⟨trivial, ?_⟩; gi_at_call 32; refine (CallsIn.inRound lp (callsIn_wide.2 (bldk_text w1.heap.size w1.heap.size bs yb _ HBl2.out (by omega) hz2))).mono ?_; rintro e w4 ⟨rfl, hbl4, hb4, hk4⟩; have HBl4 := Lib.hid hbl4; have HB4 := Lib.hid hb4; have HK4 := Lib.hid hk4; clear hbl4 hb4 hk4))
        have hB1 : Below w1.heap.size W w4 := (HB2.out.mono hws).trans HB4.out
        refine ⟨((keeps_below HB2.out).trans HK4.out).from _, hB1, HMid.out.two.below hB1 hz, ⟨_, HTs.out, ?_⟩, HMid.out.old.trans (hB1.mono (by omega)), HMid.out.part.trans hB1⟩
        have := HBl4.out
        rw [HYB.out] at this
        exact this
  case done =>
    rintro D ys W hD ⟨htu, hpa⟩ hmid hK
    obtain ⟨bs, hts, hbl⟩ := hmid.tells
    obtain ⟨xs, hmo, hbj⟩ := hts.all htu hpa
    have hRv : R = if bs = [] then (3, []) else (0, bs) := by
      have h := HL.out
      rw [hmo] at h
      rw [hbj]
      exact h
    have hbsl := hts.len
    have hyl : ys.length ≤ 1401 := by
      have := congrArg List.length hpa
      rw [List.length_map] at this
      have := partsOf_len f
      omega
    have HMid := Lib.hid hmid
    have hws := hmid.part.size
    have HD := Lib.hid hD
    have HK := Lib.hid hK
    have HBl := Lib.hid hbl
    clear hts htu hpa hmo hbj hbl hmid hD hK
    by_cases hb0 : bs = []
    · subst hb0
      obtain rfl : R = (3, []) := by rw [hRv, if_pos rfl]
      clear hRv
      gi_wp2_with (first
        | (refine ⟨trivial, ?_⟩; gi_at_call 33; refine (callsIn_wide.2 (qlen_any w1.heap.size w1.heap.size [] _ HBl.out)).mono ?_; rintro e w' ⟨rfl, rfl⟩)
        | (refine ⟨trivial, ?_⟩; gi_at_call 19; refine (callsIn_wide.2 (wrap6_p [] 3 _ _ _ rfl)).mono ?_; rintro e w2 ⟨rfl, cs2, hch, hb⟩; have HCh2 := Lib.hid hch; have HT2 := Lib.hid (HMid.out.two.below hb (by omega)); obtain ⟨⟨hc0, hf0⟩, hc1, hf1⟩ := HT2.out.cells; have HB2 := Lib.hid hb; clear hch hb))
      have hP := HT2.out.put (.string ⟨#[]⟩) (.iface 108 (.pointer (some ⟨W.heap.size, 0, none⟩)))
      have hK2 := (((keeps_below HB2.out).trans (KeepsOthers.setCell _ ⟨w.heap.size, 0, none⟩ (.string ⟨#[]⟩))).trans (KeepsOthers.setCell _ ⟨w.heap.size + 1, 0, none⟩ (.iface 108 (.pointer (some ⟨W.heap.size, 0, none⟩))))).same D _ HK.out rfl
      refine ⟨by simp, .inl ⟨_, _, rfl, run_takeDeferred hK2, ?_⟩⟩
      have hr' := no_cells hK2
      have hd0 := (boxed_keep hP.1 (grownBy_putObj' _ D (.deferred none)) hr').cell
      have hd1 := (boxed_keep hP.2 (grownBy_putObj' _ D (.deferred none)) hr').cell
      refine ⟨.tuple #[.string ⟨#[]⟩, .iface 108 (.pointer (some ⟨W.heap.size, 0, none⟩))], ?_, ⟨cs2, _, _, rfl, chain_own (grownBy_putObj' _ D (.deferred none)) hr' (HT2.out.chain _ _ HCh2.out), ?_⟩⟩
      · simp [results, Tryz.f10, go_sem, hd0, hd1]
      · exact (((bnext HMid.out.old HB2.out).setCell (p := ⟨w.heap.size, 0, none⟩) (Nat.le_refl _) _).setCell (p := ⟨w.heap.size + 1, 0, none⟩) (by simp) _).trans (belowK_b (w := w) (Nat.le_refl _) _ D _ _ (by have := HD.out; simp at this; omega) hK2 rfl rfl)
    · have hbl0 : 0 < bs.length := List.length_pos_iff.2 hb0
      obtain rfl : R = (0, bs) := by rw [hRv, if_neg hb0]
      clear hRv hb0
      gi_wp2_with (first
        | (refine ⟨trivial, ?_⟩; gi_at_call 33; refine (callsIn_wide.2 (qlen_any w1.heap.size w1.heap.size bs _ HBl.out)).mono ?_; rintro e w' ⟨rfl, rfl⟩)
        | (refine ⟨trivial, ?_⟩; gi_at_call 34; refine (callsIn_wide.2 (bldk_done w1.heap.size w1.heap.size bs _ HBl.out hws)).mono ?_; rintro e w2 ⟨rfl, hb, hks⟩; have HKs := Lib.hid hks; have HT2 := Lib.hid (HMid.out.two.below hb hz); obtain ⟨⟨hc0, hf0⟩, hc1, hf1⟩ := HT2.out.cells; have HB2 := Lib.hid hb; clear hb hks))
      have hP := HT2.out.put (.string ⟨bs.toArray⟩) .nilIface
      have hDw : w1.heap.size ≤ D := by have := HD.out; simp at this; omega
      have hKw : w2.heap[D]? = some (.deferred (some [])) := HKs.out D _ HK.out rfl
      have hK2 := ((KeepsOthers.setCell w2 ⟨w.heap.size, 0, none⟩ (.string ⟨bs.toArray⟩)).trans (KeepsOthers.setCell _ ⟨w.heap.size + 1, 0, none⟩ .nilIface)).same D _ hKw rfl
      refine ⟨by simp, .inl ⟨_, _, rfl, run_takeDeferred hK2, ?_⟩⟩
      have hr' := no_cells hK2
      have hd0 := (boxed_keep hP.1 (grownBy_putObj' _ D (.deferred none)) hr').cell
      have hd1 := (boxed_keep hP.2 (grownBy_putObj' _ D (.deferred none)) hr').cell
      refine ⟨.tuple #[.string ⟨bs.toArray⟩, .nilIface], ?_, text_no rfl ?_⟩
      · simp [results, Tryz.f10, go_sem, hd0, hd1]
      · exact (((HMid.out.old.trans (HB2.out.mono (by omega))).setCell (p := ⟨w.heap.size, 0, none⟩) (Nat.le_refl _) _).setCell (p := ⟨w.heap.size + 1, 0, none⟩) (by simp) _).trans (belowK_b (w := w) (Nat.le_refl _) _ D _ _ (by omega) hK2 rfl rfl)
  case stop =>
    rintro D c pre W hD ⟨htu, hpa⟩ ⟨rfl, hbad⟩ hK
    obtain ⟨cs, u, xx, hd0, hd1, hch⟩ := hbad.cells
    have hRv := HL.out
    obtain ⟨rest, hrest⟩ := hpa
    rw [← hrest, mapOne_no hbad.none_] at hRv
    obtain rfl : R = (2, []) := hRv
    gi_wp2
    refine ⟨by simp, .inl ⟨_, _, rfl, run_takeDeferred hK, ?_⟩⟩
    have hr' : ∀ r, some D = some r → ∃ o : Obj, W.heap[r]? = some o ∧ o.isCells = false := fun r e => by cases e; exact ⟨_, hK, rfl⟩
    have hc0 := (boxed_keep hd0 (grownBy_putObj' _ D (.deferred none)) hr').cell
    have hc1 := (boxed_keep hd1 (grownBy_putObj' _ D (.deferred none)) hr').cell
    refine ⟨.tuple #[.string ⟨#[]⟩, .iface u xx], ?_, text_two rfl (chain_own (grownBy_putObj' _ D (.deferred none)) hr' hch) ?_⟩
    · simp [results, Tryz.f10, go_sem, hc0, hc1]
    · exact hbad.old.trans (belowK_b (w := w) (Nat.le_refl _) W D _ _ (by simp at hD; omega) hK rfl rfl)
end Go.Proofs.YtfaieldafoeaiaaGreatDoor

/-
  Worlds that differ in some blocks alone; a builder with its own blocks told.
-/
namespace Go.Proofs.YtfaieldafoeaiaaGreatDoor
open Go.RowKit

/-- All blocks but those listed hold what they held. -/
structure Kept (S : List Nat) (w w' : World) : Prop where
  os : w'.os = w.os
  tape : w'.tape = w.tape
  output : w'.output = w.output
  size : w.heap.size ≤ w'.heap.size
  block : ∀ k, k < w.heap.size → k ∉ S → w'.heap[k]? = w.heap[k]?

theorem Kept.refl (S : List Nat) (w : World) : Kept S w w := ⟨rfl, rfl, rfl, Nat.le_refl _, fun _ _ _ => rfl⟩
theorem Kept.trans {S S2 : List Nat} {a b c : World} (h : Kept S a b) (k : Kept S2 b c) (hs : ∀ k ∈ S2, k ∈ S ∨ a.heap.size ≤ k) : Kept S a c :=
  ⟨k.os.trans h.os, k.tape.trans h.tape, k.output.trans h.output, Nat.le_trans h.size k.size, fun i hi hn => (k.block i (Nat.lt_of_lt_of_le hi h.size) (fun hm => (hs i hm).elim hn (fun h' => by omega))).trans (h.block i hi hn)⟩
theorem Kept.mono {S S2 : List Nat} {a b : World} (h : Kept S a b) (hs : ∀ k ∈ S, k ∈ S2 ∨ a.heap.size ≤ k) : Kept S2 a b :=
  (Kept.refl S2 a).trans h hs
theorem Kept.drew {S : List Nat} {a w : World} (h : Kept S a w) : Kept S a w.drew := ⟨h.os, h.tape, h.output, h.size, h.block⟩
theorem Kept.drewN {S : List Nat} {a w : World} (h : Kept S a w) (n : Nat) : Kept S a (w.drewN n) := ⟨h.os, h.tape, h.output, h.size, h.block⟩
theorem Kept.alloc {S : List Nat} {a w : World} (h : Kept S a w) (o : Obj) : Kept S a (w.alloc o) :=
  h.trans (S2 := []) ⟨rfl, rfl, rfl, by simp, fun k hk _ => Below.heap_alloc _ _ _ hk⟩ (by simp)
theorem Kept.setCell {S : List Nat} {a w : World} (h : Kept S a w) {p : Addr} (hp : p.block ∈ S ∨ a.heap.size ≤ p.block) (u : Value) : Kept S a (w.setCell p u) :=
  h.trans (S2 := [p.block]) ⟨rfl, rfl, rfl, by simp [World.setCell], fun k _ hk => Below.heap_setCell _ _ _ _ (by simpa using hk)⟩ (by simpa using hp)
theorem Kept.grown {S : List Nat} {a w w' : World} {row : Option Nat} (h : Kept S a w) (hg : w.grownBy w' row) (hr : ∀ k, row = some k → k ∈ S ∨ a.heap.size ≤ k) : Kept S a w' :=
  h.trans (S2 := row.toList) ⟨hg.os, hg.tape, hg.output, hg.size, fun k hk hn => hg.block k hk (fun e => hn (by rw [← e]; simp))⟩ (fun k hk => hr k (by simpa using hk))
theorem Kept.cell {S : List Nat} {w w' : World} (h : Kept S w w') {p : Addr} (hl : p.block < w.heap.size) (hp : p.block ∉ S) : w'.cell? p = w.cell? p := World.cell?_of_block (w := w) (h.block p.block hl hp)
theorem Kept.frozen {S : List Nat} {w w' : World} (h : Kept S w w') {p : Addr} (hl : p.block < w.heap.size) (hp : p.block ∉ S) : w'.frozen? p = w.frozen? p := World.frozen?_of_block (w := w) (h.block p.block hl hp)
theorem Kept.below {S : List Nat} {w w' : World} {B : Nat} (h : Kept S w w') (hB : B ≤ w.heap.size) (hs : ∀ k ∈ S, B ≤ k) : Below B w w' :=
  ⟨h.os, h.tape, h.output, h.size, fun k hk => h.block k (by omega) (fun hm => by have := hs k hm; omega)⟩
theorem Kept.of_below {w w' : World} (h : Below w.heap.size w w') (S : List Nat) : Kept S w w' := ⟨h.os, h.tape, h.output, h.size, fun k hk _ => h.block k hk⟩
theorem Kept.grownBy {w w' : World} {S : List Nat} {row : Option Nat} (h : Kept S w w') (hs : ∀ k ∈ S, row = some k ∨ w.heap.size ≤ k) : w.grownBy w' row :=
  ⟨h.os, h.tape, h.output, h.size, fun k hk hn => h.block k hk (fun hm => (hs k hm).elim (fun e => hn e.symm) (fun h' => by omega))⟩
theorem owns_kept {S : List Nat} {w w' : World} {base : Nat} {e : TypeId} {size : Nat} {v : Value} {n : Nat} {xs : List Value} (h : w.ownsRow base e size v n xs) (hk : Kept S w w') (hs : ∀ k, v.ownBlock = some k → k ∉ S) : w'.ownsRow base e size v n xs := by
  obtain ⟨h1, h2⟩ := h
  refine ⟨h1, ?_⟩
  rcases h2 with h2 | ⟨g, cap, cur, rfl, hg, hh, r⟩
  · exact .inl h2
  · exact .inr ⟨g, cap, cur, rfl, hg, (hk.block g (Array.getElem?_eq_some_iff.1 hh).1 (hs g rfl)).trans hh, r⟩

/-- A builder in block b, its row in block o, with its bytes. -/
def BldO (b : Nat) (o : Option Nat) (l : List UInt8) (w : World) : Prop :=
  ∃ p v, (p = .pointer none ∨ p = .pointer (some ⟨b, 0, none⟩)) ∧ w.heap[b]? = some (.cells #[p, v] 51 (0, 0)) ∧ w.ownsRow 0 5 1 v l.length (Lib.byteCells l) ∧ v.ownBlock = o ∧ o ≠ some b
theorem BldO.lt {b : Nat} {o : Option Nat} {l : List UInt8} {w : World} (h : BldO b o l w) : b < w.heap.size := by
  obtain ⟨p, v, _, hbk, _⟩ := h
  exact (Array.getElem?_eq_some_iff.1 hbk).1
theorem BldO.olt {b : Nat} {o : Option Nat} {l : List UInt8} {w : World} (h : BldO b o l w) : ∀ k, o = some k → k < w.heap.size := by
  obtain ⟨p, v, _, _, hown, rfl, _⟩ := h
  exact fun k hk => (hown.lt k hk).2
theorem BldO.kept {b : Nat} {o : Option Nat} {l : List UInt8} {w w' : World} {S : List Nat} (h : BldO b o l w) (hk : Kept S w w') (hb : b ∉ S) (ho : ∀ k, o = some k → k ∉ S) : BldO b o l w' := by
  have hlt := h.lt
  obtain ⟨p, v, hp, hbk, hown, rfl, hne⟩ := h
  exact ⟨p, v, hp, (hk.block b hlt hb).trans hbk, owns_kept hown hk ho, rfl, hne⟩
theorem byteCells_len (l : List UInt8) : (Lib.byteCells l).length = l.length := by simp [Lib.byteCells]
theorem BldO.is {b : Nat} {o : Option Nat} {l : List UInt8} {w : World} (h : BldO b o l w) : Lib.IsBuilder 51 5 0 b (Lib.byteCells l) w := by
  obtain ⟨p, v, hp, hbk, hown, rfl, hne⟩ := h
  rcases hp with rfl | rfl
  · exact .inl ⟨Nat.zero_le _, v, hbk, by rw [byteCells_len]; exact hown, hne⟩
  · exact .inr ⟨Nat.zero_le _, v, hbk, by rw [byteCells_len]; exact hown, hne⟩
/-- Where a builder's row lies behind a write: where it lay, or in a new block. -/
def OAt (w : World) (o o' : Option Nat) : Prop := o' = o ∨ ∃ k, o' = some k ∧ w.heap.size ≤ k

theorem copyCheck_o (b : Nat) (o : Option Nat) (l : List UInt8) (w : World) (h : BldO b o l w) :
    Calls Tryz.prog 68 #[.pointer (some ⟨b, 0, none⟩)] w fun e w' => e = .returned (.tuple #[]) ∧
      (∃ v, w'.heap[b]? = some (.cells #[.pointer (some ⟨b, 0, none⟩), v] 51 (0, 0)) ∧ w'.ownsRow 0 5 1 v l.length (Lib.byteCells l) ∧ v.ownBlock = o) ∧ Kept [b] w w' ∧ w'.heap.size = w.heap.size := by
  have hlt := h.lt
  have hi := h.is
  obtain ⟨p, v, hp, hbk, hown, rfl, hne⟩ := h
  rcases hp with rfl | rfl
  · have h0 : Lib.BuilderAt 51 5 0 b (.pointer none) (Lib.byteCells l) w := ⟨Nat.zero_le _, v, hbk, by rw [byteCells_len]; exact hown, hne⟩
    refine (copyCheck_fresh b w h0.cell0 h0.shape h0.frozen0).mono ?_
    rintro e w' ⟨rfl, rfl⟩
    have hk : Kept [b] w (w.setCell ⟨b, 0, none⟩ (.pointer (some ⟨b, 0, none⟩))) := (Kept.refl _ _).setCell (p := ⟨b, 0, none⟩) (.inl (by simp)) _
    refine ⟨rfl, ⟨v, ?_, owns_kept hown hk (fun k hk' => by rw [hk'] at hne; simpa using hne), rfl⟩, hk, by simp [World.setCell]⟩
    simp [World.setCell, Array.getElem?_modify, hbk]
  · have h0 : Lib.BuilderAt 51 5 0 b (.pointer (some ⟨b, 0, none⟩)) (Lib.byteCells l) w := ⟨Nat.zero_le _, v, hbk, by rw [byteCells_len]; exact hown, hne⟩
    refine (copyCheck_used b w h0.cell0).mono ?_
    rintro e w' ⟨rfl, rfl⟩
    exact ⟨rfl, ⟨v, hbk, hown, rfl⟩, Kept.refl _ _, rfl⟩

set_option maxHeartbeats 1000000 in
set_option maxRecDepth 100000 in
/-- WriteByte. -/
theorem bldo_byte (b : Nat) (o : Option Nat) (l : List UInt8) (c : UInt8) (x : Int) (w : World) (h : BldO b o l w) (hx : x = (c.toNat : Int)) (hlen : l.length + 1 ≤ 1000000) :
    Calls Tryz.prog 31 #[.pointer (some ⟨b, 0, none⟩), .int .u8 x] w fun e w' => e = .returned .nilIface ∧ ∃ o', BldO b o' (l ++ [c]) w' ∧ OAt w o o' ∧ Kept (b :: o.toList) w w' := by
  subst hx
  obtain ⟨i0, hi, hz0, hz1, hz2⟩ := info_parts bldExtra.infoByte
  have hlt := h.lt
  have holt := h.olt
  have hne : o ≠ some b := by obtain ⟨p, v, hp, hbk, hown, rfl, hne⟩ := h; exact hne
  have HH := Lib.hid h
  clear h
  go_enter Tryz.func31, Tryz.ntmps31
  go_wp2_with (go_at_call 68; refine (copyCheck_o b o l _ HH.out).mono ?_)
  rintro e w1 ⟨rfl, ⟨v, hbk, hown, hvo⟩, hk1, hsz⟩
  have hne1 : v.ownBlock ≠ some b := by rw [hvo]; exact hne
  have c0 : w1.cell? ⟨b, 0, none⟩ = some (.pointer (some ⟨b, 0, none⟩)) := by rw [Lib.cell_of_heap hbk]; rfl
  have c1 : w1.cell? ⟨b, 1, none⟩ = some v := by rw [Lib.cell_of_heap hbk]; rfl
  have HZ := Lib.hid hsz
  have HV := Lib.hid hvo
  clear hsz hvo
  go_wp2_with (at_builtin; refine wpList_append_own_at _ rfl _ _ 49 rfl 0 5 i0 (.int .u8 0) 1 1 Tryz.underlying49 hi hz0 hz1 hz2 rfl (by decide) _ _ _ rfl (hown.alloc _) ⟨w1.heap.size, 0, none⟩ 1 1 [.int .u8 (c.toNat : Int)] rfl rfl ?c1 ?c2 ?c3 ?c4 ?c5 ?_)
  case c1 => exact cell_one_new _ _ _
  case c2 => intro u hu; simp at hu; subst hu; rfl
  case c3 => unfold maxLen; omega
  case c4 => omega
  case c5 => exact Nat.zero_le _
  intro v' w2 hown' hgrow _ hat
  have hlt1 : b < w1.heap.size := (Array.getElem?_eq_some_iff.1 hbk).1
  have hb2 : w2.heap[b]? = some (.cells #[.pointer (some ⟨b, 0, none⟩), v] 51 (0, 0)) := by
    rw [hgrow.block b (by simp; omega) (fun e => hne1 e.symm), Lib.alloc_old w1 _ b hlt1]
    exact hbk
  have d0 : w2.cell? ⟨b, 0, none⟩ = some (.pointer (some ⟨b, 0, none⟩)) := by rw [Lib.cell_of_heap hb2]; rfl
  have d1 : w2.cell? ⟨b, 1, none⟩ = some v := by rw [Lib.cell_of_heap hb2]; rfl
  have f1 : w2.frozen? ⟨b, 1, none⟩ = false := Lib.frozen_of_heap hb2 1
  obtain ⟨g, cap, rfl⟩ : ∃ g cap, v' = .slice (some ⟨g, 0, none⟩) (l.length + 1) cap := by
    rcases hown'.2 with ⟨_, h0⟩ | ⟨g, cap, cur, hv, _⟩
    · omega
    · exact ⟨g, cap, hv⟩
  have hKK : Kept (b :: o.toList) w w2 := by
    refine ((hk1.mono (S2 := b :: o.toList) (by simp)).alloc _).grown hgrow (fun k hk => .inl ?_)
    rw [HV.out] at hk
    simp [hk]
  have hOO : OAt w o (some g) := by
    rcases hat with e | e
    · left
      rw [HV.out] at e
      exact e
    · right
      refine ⟨g, rfl, ?_⟩
      have : g = (w1.alloc (.cells #[.int .u8 (c.toNat : Int)] 5)).heap.size := by simpa [Value.ownBlock] using e
      simp at this
      have := HZ.out
      omega
  have HK := Lib.hid (And.intro hKK hOO)
  clear hKK hOO hat
  go_wp2
  go_ret
  have hput := Lib.BuilderAt.put (T := 51) (e := 5) (Nat.zero_le b) hb2 (bs' := Lib.byteCells (l ++ [c])) (v' := .slice (some ⟨g, 0, none⟩) (l.length + 1) cap) (by rw [byteCells_append, List.length_append, byteCells_len]; exact hown') (by decide)
  obtain ⟨_, v3, hb3, hown3, hne3⟩ := hput
  have e3 : v3 = .slice (some ⟨g, 0, none⟩) (l.length + 1) cap := by
    simp [World.setCell, Array.getElem?_modify, hb2] at hb3
    exact hb3.symm
  subst e3
  refine ⟨rfl, some g, ⟨_, _, .inr rfl, hb3, ?_, rfl, hne3⟩, HK.out.2, HK.out.1.setCell (p := ⟨b, 1, none⟩) (.inl (by simp)) _⟩
  rw [byteCells_len] at hown3
  exact hown3
end Go.Proofs.YtfaieldafoeaiaaGreatDoor

/-
  The tally: marks counted by a binary indexed tree.
-/
namespace Go.Proofs.YtfaieldafoeaiaaGreatDoor
open Go.RowKit

/-- The least bit that is set. -/
def lb (n : Nat) : Nat := (bits BinOp.and IntKind.i64 (n : Int) (-(n : Int))).toNat
theorem lb_one : ∀ a : Fin 257, 0 < a.val → bits BinOp.and IntKind.i64 (a.val : Int) (-(a.val : Int)) = (lb a.val : Int) ∧ 1 ≤ lb a.val ∧ lb a.val ≤ a.val := by decide +kernel
theorem lb_between : ∀ a : Fin 257, 0 < a.val → ∀ i : Fin 257, a.val < i.val → i.val < a.val + lb a.val → a.val ≤ i.val - lb i.val := by decide +kernel
theorem lb_next : ∀ a : Fin 257, 0 < a.val → a.val + lb a.val ≤ 256 → a.val + lb a.val - lb (a.val + lb a.val) ≤ a.val - lb a.val := by decide +kernel
theorem lb_zero : lb 0 = 0 := by decide +kernel

/-- How many are marked ahead of a place. -/
def cnt (M : Nat → Bool) : Nat → Nat
  | 0 => 0
  | n + 1 => cnt M n + if M n then 1 else 0
theorem cnt_mono (M : Nat → Bool) {a b : Nat} (h : a ≤ b) : cnt M a ≤ cnt M b := by
  induction b with
  | zero => rw [Nat.le_zero.1 h]; exact Nat.le_refl _
  | succ b ih =>
    by_cases e : a = b + 1
    · subst e; exact Nat.le_refl _
    · exact Nat.le_trans (ih (by omega)) (Nat.le_add_right _ _)
theorem cnt_le (M : Nat → Bool) (n : Nat) : cnt M n ≤ n := by
  induction n with
  | zero => exact Nat.le_refl _
  | succ n ih => show cnt M n + _ ≤ _; split <;> omega
/-- One place more is marked. -/
def mark (M : Nat → Bool) (p : Nat) : Nat → Bool := fun i => M i || i == p
theorem cnt_mark (M : Nat → Bool) (p : Nat) (hp : M p = false) (n : Nat) : cnt (mark M p) n = cnt M n + if p < n then 1 else 0 := by
  induction n with
  | zero => simp [cnt]
  | succ n ih =>
    show cnt (mark M p) n + (if (M n || n == p) = true then 1 else 0) = (cnt M n + if M n = true then 1 else 0) + _
    rw [ih]
    by_cases e : n = p
    · subst e; rw [hp]; simp
    · have e1 : (n == p) = false := beq_eq_false_iff_ne.2 e
      rw [e1, Bool.or_false]
      by_cases h : p < n
      · rw [if_pos h, if_pos (show p < n + 1 by omega)]; omega
      · rw [if_neg h, if_neg (show ¬ p < n + 1 by omega)]; omega
/-- What the tree holds at a place. -/
def fen (M : Nat → Bool) (i : Nat) : Nat := cnt M i - cnt M (i - lb i)
theorem fen_mark (M : Nat → Bool) (p : Nat) (hp : M p = false) (i : Nat) : fen (mark M p) i = fen M i + if i - lb i ≤ p ∧ p < i then 1 else 0 := by
  unfold fen
  rw [cnt_mark M p hp, cnt_mark M p hp]
  have := cnt_mono M (Nat.sub_le i (lb i))
  have h2 : i - lb i ≤ i := Nat.sub_le _ _
  repeat' split
  all_goals omega

/-- A tally in block bt, of n places. -/
def Tally (bt n : Nat) (M : Nat → Bool) (w : World) : Prop := bt < w.heap.size ∧ ∀ i, i ≤ n → w.cell? ⟨bt, i, none⟩ = some (.int .i64 (fen M i : Int)) ∧ w.frozen? ⟨bt, i, none⟩ = false
theorem Tally.kept {bt n : Nat} {M : Nat → Bool} {w w' : World} {S : List Nat} (h : Tally bt n M w) (hk : Kept S w w') (hb : bt ∉ S) : Tally bt n M w' :=
  ⟨Nat.lt_of_lt_of_le h.1 hk.size, fun i hi => ⟨(hk.cell (p := ⟨bt, i, none⟩) h.1 hb).trans (h.2 i hi).1, (hk.frozen (p := ⟨bt, i, none⟩) h.1 hb).trans (h.2 i hi).2⟩⟩

set_option maxHeartbeats 1000000 in
set_option maxRecDepth 100000 in
theorem qahead_any (bt n p : Nat) (M : Nat → Bool) (w : World) (hn : n ≤ 250) (hp : p ≤ n) (h : Tally bt n M w) :
    Calls Tryz.prog 52 #[.slice (some ⟨bt, 0, none⟩) (n + 1) (n + 1), .int .i64 p] w fun e w' => e = .returned (.int .i64 (cnt M p)) ∧ w = w' := by
  go_enter Tryz.func52, Tryz.ntmps52
  go_wp2
  go_loopw [5, 6] (fun s a wr => ∃ sum t : Nat, s = .int .i64 sum ∧ a = .int .i64 t ∧ wr = w ∧ t ≤ p ∧ sum + cnt M t = cnt M p) (fun _ a _ => (intOf a).toNat)
  case atStart => exact ⟨0, p, rfl, rfl, rfl, Nat.le_refl _, by simp⟩
  case round =>
    obtain ⟨sum, t, rfl, rfl, hw, ht, hs⟩ := hrel
    have := hw.symm; subst this
    clear hw
    have hsb := cnt_le M p
    by_cases h0 : 0 < t
    · have hc := (h.2 t (by omega)).1
      obtain ⟨hb1, hb2, hb3⟩ := lb_one ⟨t, by omega⟩ h0
      simp only at hb1 hb2 hb3
      have hf1 : fen M t + cnt M (t - lb t) = cnt M t := by
        have := cnt_mono M (Nat.sub_le t (lb t))
        unfold fen; omega
      clear h
      obtain ⟨b, hbe⟩ : ∃ b, lb t = b := ⟨_, rfl⟩
      rw [hbe] at hb1 hb2 hb3 hf1
      have HF : Hid (fen M t + cnt M (t - b) = cnt M t) := hf1
      have HS : Hid (sum + cnt M t = cnt M p) := hs
      obtain ⟨f, hfe⟩ : ∃ f, fen M t = f := ⟨_, rfl⟩
      rw [hfe] at hc HF
      have hfb : sum + f ≤ p := by omega
      clear hbe hf1 hs hfe
      go_wp2
      go_roundw
      case rel => exact ⟨sum + f, t - b, by go_num, by go_num, by first | rfl | trivial, by omega, by have h1 := HF.out; have h2 := HS.out; omega⟩
      case measure => simp [intOf]; omega
    · obtain rfl : t = 0 := by omega
      have HS : Hid (sum = cnt M p) := hs
      clear h hs
      go_wp2
      go_ret
      exact ⟨ret_int (by rw [← HS.out]), rfl⟩

set_option maxHeartbeats 1000000 in
set_option maxRecDepth 100000 in
theorem qmark_any (bt n p : Nat) (M : Nat → Bool) (w : World) (hn : n ≤ 250) (hp : p < n) (hM : M p = false) (h : Tally bt n M w) :
    Calls Tryz.prog 48 #[.slice (some ⟨bt, 0, none⟩) (n + 1) (n + 1), .int .i64 p] w fun e w' => e = .returned (.tuple #[]) ∧ Tally bt n (mark M p) w' ∧ Kept [bt] w w' := by
  go_enter Tryz.func48, Tryz.ntmps48
  go_wp2
  go_loopw [4] (fun a wr => ∃ t : Nat, a = .int .i64 t ∧ p < t ∧ (t ≤ n → t - lb t ≤ p) ∧ t ≤ 512 ∧ Kept [bt] w wr ∧ bt < wr.heap.size ∧
      ∀ i, i ≤ n → wr.cell? ⟨bt, i, none⟩ = some (.int .i64 ((fen M i + if i < t ∧ i - lb i ≤ p ∧ p < i then 1 else 0 : Nat) : Int)) ∧ wr.frozen? ⟨bt, i, none⟩ = false) (fun a _ => n + 1 - (intOf a).toNat)
  case atStart =>
    refine ⟨p + 1, by go_num, by omega, fun _ => ?_, by omega, Kept.refl _ _, h.1, fun i hi => ⟨?_, (h.2 i hi).2⟩⟩
    · have := lb_one ⟨p + 1, by omega⟩ (Nat.succ_pos p)
      simp only at this
      omega
    · rw [(h.2 i hi).1, if_neg (by omega)]
      rfl
  case round =>
    obtain ⟨t, rfl, hpt, htl, ht256, hK, hlt, hcell⟩ := hrel
    clear h
    have HK := Lib.hid hK
    clear hK
    have hsb := cnt_le M n
    by_cases h0 : t ≤ n
    · obtain ⟨hb1, hb2, hb3⟩ := lb_one ⟨t, by omega⟩ (show 0 < t by omega)
      simp only at hb1 hb2 hb3
      obtain ⟨hc, hf⟩ := hcell t h0
      rw [if_neg (by omega)] at hc
      have hfm : fen M t ≤ n := by
        have h1 := cnt_mono M h0
        unfold fen; omega
      have HL := Lib.hid (And.intro htl (And.intro (lb_between ⟨t, by omega⟩ (show 0 < t by omega)) (lb_next ⟨t, by omega⟩ (show 0 < t by omega))))
      have HC := Lib.hid hcell
      clear hcell htl
      obtain ⟨b, hbe⟩ : ∃ b, lb t = b := ⟨_, rfl⟩
      rw [hbe] at hb1 hb2 hb3
      have HBE := Lib.hid hbe
      obtain ⟨f, hfe⟩ : ∃ f, fen M t = f := ⟨_, rfl⟩
      rw [hfe] at hfm
      simp only [hfe, Nat.add_zero] at hc
      have HFE := Lib.hid hfe
      clear hbe hfe
      go_wp2
      go_roundw
      case rel =>
        obtain ⟨hl1, hl2, hl3⟩ := HL.out
        simp only [HBE.out] at hl1 hl2 hl3
        refine ⟨t + b, by go_num, by omega, fun hle => ?_, by omega, HK.out.setCell (p := ⟨bt, t, none⟩) (.inl (by simp)) _, by simpa using hlt, fun i hi => ?_⟩
        · have := hl3 (by omega)
          omega
        · rw [World.frozen?_setCell]
          refine ⟨?_, (HC.out i hi).2⟩
          by_cases e : i = t
          · subst e
            rw [World.cell?_setCell_same' _ _ _ (by rw [(HC.out i hi).1]; rfl), if_pos ⟨by omega, by rw [HBE.out]; exact hl1 h0, hpt⟩, HFE.out]
            rfl
          · rw [World.cell?_setCell_other _ _ _ _ (by intro e'; simp only [Addr.mk.injEq] at e'; omega), (HC.out i hi).1]
            by_cases h1 : i < t
            · simp only [h1, show i < t + b by omega]
            · by_cases h2 : i < t + b
              · have := hl2 ⟨i, by omega⟩ (show t < i by omega) h2
                simp only at this
                rw [if_neg (by omega), if_neg (by omega)]
              · rw [if_neg (by omega), if_neg (by omega)]
      case measure => simp [intOf]; omega
    · have HC : Hid (Tally bt n (mark M p) wr) := ⟨hlt, fun i hi => ⟨by rw [(hcell i hi).1, fen_mark M p hM]; simp only [show i < t by omega, true_and], (hcell i hi).2⟩⟩
      clear hcell htl
      go_wp2
      go_end0
      exact ⟨rfl, HC.out, HK.out⟩
end Go.Proofs.YtfaieldafoeaiaaGreatDoor

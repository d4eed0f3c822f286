/-
  In this text, one behind the other: XSplit, XText.
-/
import Derived.BigQuiet
import Derived.Deep.Light
import Derived.Deep.QuietTactic
import Derived.IntWalk
import Derived.LaidEql
import Derived.Laws.BitsLemmas
import Derived.Laws.Cover4
import Derived.Lib.Hide
import Derived.Maps.AppendAt
import Derived.RowKitTokens
import Derived.Stop.Asserts
import Derived.WalkKit
import Derived.WalkLawsBesides
import Derived.WalkSpells
import Derived.Test.YtliklhldlofnjaaDoorRows
import Derived.Test.YtliklhldlofnjaaDoorG3
import Derived.Test.YtliklhldlofnjaaDoorG5
import Derived.Test.YtliklhldlofnjaaDoorG1
/-
  The document's Split and parts of layer 7, by their contracts.
-/
namespace Go.Proofs.YtliklhldlofnjaaDoor
open Go.RowKit

/-- A text of bytes. -/
def btx (l : List UInt8) : ByteArray := ⟨l.toArray⟩
theorem btx_size (l : List UInt8) : (btx l).size = l.length := by show l.toArray.size = _; simp
/-- A slice of texts that the call made. -/
def MadeS (B : Nat) (w : World) (v : Value) (ps : List (List UInt8)) : Prop := w.ownsRow B 9 1 v ps.length (ps.map fun p => Value.string (btx p))
theorem Tryd.infoS : (Tryd.prog.info? 9).map (fun i => (i.zero, i.size, i.bytes)) = some (some (.string ⟨#[]⟩), 1, 16) := by kernel_rfl
theorem MadeS.strs {B : Nat} {w : World} {v : Value} {ps : List (List UInt8)} (h : MadeS B w v ps) : ∃ A c, v = .slice A ps.length c ∧ ps.length ≤ c ∧ Strs w A (ps.map btx) := by
  have h' : w.ownsRow B 9 1 v ps.length (ps.map fun p => Value.string (btx p)) := h
  rcases h.2 with ⟨rfl, h0⟩ | ⟨g, cap, cur, rfl, hh⟩
  · obtain rfl := List.eq_nil_of_length_eq_zero h0
    exact ⟨none, 0, rfl, Nat.le_refl _, fun i s hs => by simp at hs⟩
  · refine ⟨_, _, rfl, hh.2.2.1, fun i s hs => ?_⟩
    have hi : i < ps.length := by have := (List.getElem?_eq_some_iff.1 hs).1; simpa using this
    have hc := h'.cellAt (g := g) i (by simpa using hi)
    refine ⟨g, 0, rfl, (Array.getElem?_eq_some_iff.1 hh.2.1).1, ?_⟩
    rw [Nat.zero_add, hc, List.getElem?_map]
    rw [List.getElem?_map] at hs
    obtain ⟨p, hp, rfl⟩ := Option.map_eq_some_iff.1 hs
    rw [hp]; rfl
theorem MadeS.below {B : Nat} {w w' : World} {v : Value} {ps : List (List UInt8)} (h : MadeS B w v ps) (hb : Below w.heap.size w w') : MadeS B w' v ps := own_below h hb
/-- 'append(v, t)' of one text, v a slice of texts of the call's own. -/
theorem append_text {ops : Array Oper} {rest : List Oper} {o : Oper} {a : Act} {Q : Exit → Act → World → Prop} {w0 : World} (hgd : o.guard = none) (s x : Operand)
    (ho : o.op = .call { callee := .builtin .append, args := #[s, x], argTypes := #[27, 27] })
    (B : Nat) (v : Value) (ps : List (List UInt8)) (p : List UInt8) (t : ByteArray) (ht : t = btx p) (hs : a.eval s = v) (hx : a.eval x = .slice (some ⟨w0.heap.size, 0, none⟩) 1 1) (h1 : MadeS B w0 v ps)
    (hl : ps.length ≤ 200000) (hB : B ≤ w0.heap.size)
    (h : ∀ v' w', MadeS B w' v' (ps ++ [p]) → Below B w0 w' → wpList Tryd.prog ops Q rest (a.put o.dst v') w') : wpList Tryd.prog ops Q (o :: rest) a (w0.alloc (.cells #[.string t] 9)) := by
  obtain ⟨i0, hi, hz0, hz1, hz2⟩ := info_parts Tryd.infoS
  refine wpList_append_own _ hgd s x _ ho B 9 i0 _ 1 16 Tryd.underlying27 hi hz0 hz1 hz2 rfl (by decide) v _ _ hs (h1.alloc _) ⟨w0.heap.size, 0, none⟩ 1 1 [.string t] hx rfl (cell_one_new _ _ _) (by simp [Value.oneCell']) (by simp only [maxLen]; omega) (by omega) (by simp; omega) (fun v' w' hown hg _ => h v' w' ?_ ?_)
  · show w'.ownsRow B 9 1 v' _ _
    subst ht
    rw [List.length_append, List.map_append]; exact hown
  · exact ((Below.refl B w0).alloc hB _).grown hg (by simp; omega) (own_ge (show w0.ownsRow B 9 1 v _ _ from h1))

end Go.Proofs.YtliklhldlofnjaaDoor

/-
  The document's Text of layer 7, by its contract.
-/
namespace Go.Proofs.YtliklhldlofnjaaDoor
open Go.RowKit

/-- What is left of a text, of j bytes. -/
def tail7 : Nat → Nat → List UInt8
  | 0, _ => []
  | j + 1, x => (if j < 3 then [46] else []) ++ dec8 (x / 16777216) ++ tail7 j (x % 16777216 * 256)
theorem tail7_zero (x : Nat) : tail7 0 x = [] := rfl
theorem tail7_succ (j x : Nat) : tail7 (j + 1) x = (if j < 3 then [46] else []) ++ dec8 (x / 16777216) ++ tail7 j (x % 16777216 * 256) := rfl
theorem shift7 (x : Nat) : x % 16777216 * 256 % 16777216 = x % 65536 * 256 := by omega
theorem text7_tail (a : Nat) : text7 a = tail7 4 a := by
  obtain ⟨x1, e1⟩ : ∃ x1, a % 16777216 * 256 = x1 := ⟨_, rfl⟩
  have h1 : x1 / 16777216 = a / 65536 % 256 := by omega
  have m1 : x1 % 16777216 = a % 65536 * 256 := by rw [← e1]; exact shift7 a
  obtain ⟨x2, e2⟩ : ∃ x2, x1 % 16777216 * 256 = x2 := ⟨_, rfl⟩
  have h2 : x2 / 16777216 = a / 256 % 256 := by omega
  have m2 : x2 = a % 65536 * 65536 := by omega
  obtain ⟨x3, e3⟩ : ∃ x3, x2 % 16777216 * 256 = x3 := ⟨_, rfl⟩
  have h3 : x3 / 16777216 = a % 256 := by omega
  rw [tail7_succ, e1, tail7_succ, h1, e2, tail7_succ, h2, e3, tail7_succ, h3, tail7_zero]
  simp [text7]
theorem btx_append (a b : List UInt8) : btx (a ++ b) = btx a ++ btx b := by
  apply ByteArray.ext
  rw [ByteArray.data_append]
  apply Array.toList_inj.1
  simp [btx]
theorem conv_one (W : World) (g : Nat) (hg : W.heap.size = g) (c : Int) (b : UInt8) (hc : c = (b.toNat : Int)) :
    (convert 49 9 (.slice (some ⟨g, 0, none⟩) 1 1)).run Tryd.prog (W.alloc (.cells #[.int .u8 c] 5)) = .ok (.string (btx [b])) (W.alloc (.cells #[.int .u8 c] 5)) := by
  subst hg hc
  exact run_convert_bytes_back (W.alloc (.cells #[.int .u8 (b.toNat : Int)] 5)) _ _ _ ⟨W.heap.size, 0, none⟩ 1 [b] Tryd.underlying49 Tryd.underlying5 Tryd.underlying9 (fun j hj => by
    obtain rfl : j = 0 := by simp at hj; omega
    simp [Addr.add])
theorem fig7 {d : Nat} {c : Int} (hd : d < 10) (hc : c = 48 + (d : Int)) : c = ((UInt8.ofNat (48 + d)).toNat : Int) := by
  rw [hc]
  have : (48 + d) % 256 = 48 + d := by omega
  simp [this]
def TextPost7 (s : ByteArray) (w : World) (e : Ending) (w' : World) : Prop := e = .returned (.string s) ∧ Below w.heap.size w w'

set_option maxHeartbeats 4000000 in
set_option maxRecDepth 100000 in
theorem text7_any (a : Nat) (w : World) (ha : a < 4294967296) :
    Calls Tryd.prog 29 #[.int .u32 (a : Int)] w (TextPost7 (btx (text7 a)) w) := by
  go_enter Tryd.func29, Tryd.ntmps29
  go_wp2
  go_loopw [0, 3, 4] (fun v0 v3 v4 wr => ∃ (k x : Nat) (t : List UInt8), k ≤ 4 ∧ v4 = .int .i64 k ∧ v0 = .int .u32 x ∧ v3 = .string (btx t) ∧ x < 4294967296 ∧ text7 a = t ++ tail7 (4 - k) x ∧ t.length ≤ 4 * k ∧ Below w.heap.size w wr) (fun _ _ v4 _ => 4 - (intOf v4).toNat)
  case atStart => exact ⟨0, a, [], by omega, rfl, rfl, rfl, ha, text7_tail a, by simp, Below.refl _ _⟩
  case round =>
    obtain ⟨k, x, t, hk, rfl, rfl, rfl, hx, htx, htl, hb⟩ := hrel
    have HT := Lib.hid (And.intro htx hb)
    have HTl := Lib.hid htl
    clear htx hb
    by_cases hlt : k < 4
    · obtain ⟨n, hn⟩ : ∃ n, x / 16777216 = n := ⟨_, rfl⟩
      obtain ⟨y, hy⟩ : ∃ y, x % 16777216 * 256 = y := ⟨_, rfl⟩
      have hn2 : n < 256 := by omega
      have hy2 : y < 4294967296 := by omega
      have hni : (x : Int) / 16777216 = (n : Int) := by omega
      have hyi : (x : Int) % 16777216 * 256 = (y : Int) := by omega
      have HTt := Lib.hid (show tail7 (4 - k) x = (if 3 - k < 3 then [46] else []) ++ dec8 n ++ tail7 (3 - k) y by
        rw [show 4 - k = (3 - k) + 1 by omega, tail7_succ, hn, hy])
      have HDl := Lib.hid (dec8_len hn2)
      clear hn hy
      obtain ⟨s, hs⟩ : ∃ s, btx t = s := ⟨_, rfl⟩
      have hsz : s.size ≤ 16 := by rw [← hs, btx_size]; omega
      have HSs := Lib.hid hs
      rw [hs]
      clear hs htl
      obtain ⟨f3, hf3⟩ : ∃ f, UInt8.ofNat (48 + n % 10) = f := ⟨_, rfl⟩
      obtain ⟨f2, hf2⟩ : ∃ f, UInt8.ofNat (48 + n / 10 % 10) = f := ⟨_, rfl⟩
      obtain ⟨f1, hf1⟩ : ∃ f, UInt8.ofNat (48 + n / 100) = f := ⟨_, rfl⟩
      have g3 : 48 + (n : Int) % 10 = (f3.toNat : Int) := by rw [← hf3]; exact fig7 (by omega) (by omega)
      have g2 : 48 + (n : Int) / 10 % 10 = (f2.toNat : Int) := by rw [← hf2]; exact fig7 (by omega) (by omega)
      have g1 : 48 + (n : Int) / 100 = (f1.toNat : Int) := by rw [← hf1]; exact fig7 (by omega) (by omega)
      have u1 : (btx [f1]).size = 1 := by rw [btx_size]; rfl
      have u2 : (btx [f2]).size = 1 := by rw [btx_size]; rfl
      have u3 : (btx [f3]).size = 1 := by rw [btx_size]; rfl
      have e1 := f1.toNat_lt
      have e2 := f2.toNat_lt
      have e3 := f3.toNat_lt
      by_cases hk0 : 0 < k
      · by_cases h100 : 100 ≤ n
        · have h10 : 10 ≤ n := by omega
          have hcv1 := conv_one wr wr.heap.size (by simp) (f1.toNat : Int) f1 rfl
          have hcv2 := conv_one (wr.alloc (.cells #[.int .u8 (f1.toNat : Int)] 5)) (wr.heap.size + 1) (by simp) (f2.toNat : Int) f2 rfl
          have hcv3 := conv_one ((wr.alloc (.cells #[.int .u8 (f1.toNat : Int)] 5)).alloc (.cells #[.int .u8 (f2.toNat : Int)] 5)) (wr.heap.size + 2) (by simp) (f3.toNat : Int) f3 rfl
          go_wp2
          go_roundw
          case rel =>
            have hd : dec8 n = [f1] ++ [f2] ++ [f3] := by
              unfold dec8
              rw [if_pos h100, if_pos h10, hf3, hf2, hf1]
            refine ⟨k + 1, y, t ++ ([46] ++ dec8 n), by omega, by go_num, rfl, ?_, hy2, ?_, ?_, (((HT.out.2.alloc (Nat.le_trans HT.out.2.size (by first | exact Nat.le_refl _ | (simp; done) | (simp; omega))) _).alloc (Nat.le_trans HT.out.2.size (by first | exact Nat.le_refl _ | (simp; done) | (simp; omega))) _).alloc (Nat.le_trans HT.out.2.size (by first | exact Nat.le_refl _ | (simp; done) | (simp; omega))) _)⟩
            · rw [hd]; simp only [btx_append, HSs.out, ← ByteArray.append_assoc]; rfl
            · rw [HT.out.1, HTt.out, if_pos (by omega), show 4 - (k + 1) = 3 - k by omega]; simp
            · have := HTl.out; have := HDl.out; simp; omega
          case measure => simp [intOf]; omega
        · by_cases h10 : 10 ≤ n
          · have hcv2 := conv_one wr wr.heap.size (by simp) (f2.toNat : Int) f2 rfl
            have hcv3 := conv_one (wr.alloc (.cells #[.int .u8 (f2.toNat : Int)] 5)) (wr.heap.size + 1) (by simp) (f3.toNat : Int) f3 rfl
            go_wp2
            go_roundw
            case rel =>
              have hd : dec8 n = [f2] ++ [f3] := by
                unfold dec8
                rw [if_neg h100, if_pos h10, hf3, hf2]
                rfl
              refine ⟨k + 1, y, t ++ ([46] ++ dec8 n), by omega, by go_num, rfl, ?_, hy2, ?_, ?_, ((HT.out.2.alloc (Nat.le_trans HT.out.2.size (by first | exact Nat.le_refl _ | (simp; done) | (simp; omega))) _).alloc (Nat.le_trans HT.out.2.size (by first | exact Nat.le_refl _ | (simp; done) | (simp; omega))) _)⟩
              · rw [hd]; simp only [btx_append, HSs.out, ← ByteArray.append_assoc]; rfl
              · rw [HT.out.1, HTt.out, if_pos (by omega), show 4 - (k + 1) = 3 - k by omega]; simp
              · have := HTl.out; have := HDl.out; simp; omega
            case measure => simp [intOf]; omega
          · have hcv3 := conv_one wr wr.heap.size (by simp) (f3.toNat : Int) f3 rfl
            go_wp2
            go_roundw
            case rel =>
              have hd : dec8 n = [f3] := by
                unfold dec8
                rw [if_neg h100, if_neg h10, hf3]
                rfl
              refine ⟨k + 1, y, t ++ ([46] ++ dec8 n), by omega, by go_num, rfl, ?_, hy2, ?_, ?_, (HT.out.2.alloc (Nat.le_trans HT.out.2.size (by first | exact Nat.le_refl _ | (simp; done) | (simp; omega))) _)⟩
              · rw [hd]; simp only [btx_append, HSs.out, ← ByteArray.append_assoc]; rfl
              · rw [HT.out.1, HTt.out, if_pos (by omega), show 4 - (k + 1) = 3 - k by omega]; simp
              · have := HTl.out; have := HDl.out; simp; omega
            case measure => simp [intOf]; omega
      · by_cases h100 : 100 ≤ n
        · have h10 : 10 ≤ n := by omega
          have hcv1 := conv_one wr wr.heap.size (by simp) (f1.toNat : Int) f1 rfl
          have hcv2 := conv_one (wr.alloc (.cells #[.int .u8 (f1.toNat : Int)] 5)) (wr.heap.size + 1) (by simp) (f2.toNat : Int) f2 rfl
          have hcv3 := conv_one ((wr.alloc (.cells #[.int .u8 (f1.toNat : Int)] 5)).alloc (.cells #[.int .u8 (f2.toNat : Int)] 5)) (wr.heap.size + 2) (by simp) (f3.toNat : Int) f3 rfl
          go_wp2
          go_roundw
          case rel =>
            have hd : dec8 n = [f1] ++ [f2] ++ [f3] := by
              unfold dec8
              rw [if_pos h100, if_pos h10, hf3, hf2, hf1]
            refine ⟨k + 1, y, t ++ ([] ++ dec8 n), by omega, by go_num, rfl, ?_, hy2, ?_, ?_, (((HT.out.2.alloc (Nat.le_trans HT.out.2.size (by first | exact Nat.le_refl _ | (simp; done) | (simp; omega))) _).alloc (Nat.le_trans HT.out.2.size (by first | exact Nat.le_refl _ | (simp; done) | (simp; omega))) _).alloc (Nat.le_trans HT.out.2.size (by first | exact Nat.le_refl _ | (simp; done) | (simp; omega))) _)⟩
            · rw [hd]; simp only [btx_append, HSs.out, ← ByteArray.append_assoc]; first | rfl | (rw [show btx [] = ByteArray.empty from rfl]; simp)
            · rw [HT.out.1, HTt.out, if_neg (by omega), show 4 - (k + 1) = 3 - k by omega]; simp
            · have := HTl.out; have := HDl.out; simp; omega
          case measure => simp [intOf]; omega
        · by_cases h10 : 10 ≤ n
          · have hcv2 := conv_one wr wr.heap.size (by simp) (f2.toNat : Int) f2 rfl
            have hcv3 := conv_one (wr.alloc (.cells #[.int .u8 (f2.toNat : Int)] 5)) (wr.heap.size + 1) (by simp) (f3.toNat : Int) f3 rfl
            go_wp2
            go_roundw
            case rel =>
              have hd : dec8 n = [f2] ++ [f3] := by
                unfold dec8
                rw [if_neg h100, if_pos h10, hf3, hf2]
                rfl
              refine ⟨k + 1, y, t ++ ([] ++ dec8 n), by omega, by go_num, rfl, ?_, hy2, ?_, ?_, ((HT.out.2.alloc (Nat.le_trans HT.out.2.size (by first | exact Nat.le_refl _ | (simp; done) | (simp; omega))) _).alloc (Nat.le_trans HT.out.2.size (by first | exact Nat.le_refl _ | (simp; done) | (simp; omega))) _)⟩
              · rw [hd]; simp only [btx_append, HSs.out, ← ByteArray.append_assoc]; first | rfl | (rw [show btx [] = ByteArray.empty from rfl]; simp)
              · rw [HT.out.1, HTt.out, if_neg (by omega), show 4 - (k + 1) = 3 - k by omega]; simp
              · have := HTl.out; have := HDl.out; simp; omega
            case measure => simp [intOf]; omega
          · have hcv3 := conv_one wr wr.heap.size (by simp) (f3.toNat : Int) f3 rfl
            go_wp2
            go_roundw
            case rel =>
              have hd : dec8 n = [f3] := by
                unfold dec8
                rw [if_neg h100, if_neg h10, hf3]
                rfl
              refine ⟨k + 1, y, t ++ ([] ++ dec8 n), by omega, by go_num, rfl, ?_, hy2, ?_, ?_, (HT.out.2.alloc (Nat.le_trans HT.out.2.size (by first | exact Nat.le_refl _ | (simp; done) | (simp; omega))) _)⟩
              · rw [hd]; simp only [btx_append, HSs.out, ← ByteArray.append_assoc]; first | rfl | (rw [show btx [] = ByteArray.empty from rfl]; simp)
              · rw [HT.out.1, HTt.out, if_neg (by omega), show 4 - (k + 1) = 3 - k by omega]; simp
              · have := HTl.out; have := HDl.out; simp; omega
            case measure => simp [intOf]; omega
    · have HE : Hid (text7 a = t) := by
        show text7 a = t
        rw [HT.out.1, show 4 - k = 0 by omega, tail7_zero, List.append_nil]
      go_wp2
      go_ret
      exact ⟨by rw [HE.out]; rfl, HT.out.2⟩
end Go.Proofs.YtliklhldlofnjaaDoor

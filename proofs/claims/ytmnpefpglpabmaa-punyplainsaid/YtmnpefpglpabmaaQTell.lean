/-
  tell: a number by digits, written to a builder.
-/
import Derived.Test.YtmnpefpglpabmaaQKept
import Derived.Test.YtmnpefpglpabmaaNCon
namespace Go.Proofs.Ytmnpefpglpabmaa
open Go.RowKit

theorem digs_all : ∀ n : Fin 36, (#[97, 98, 99, 100, 101, 102, 103, 104, 105, 106, 107, 108, 109, 110, 111, 112, 113, 114, 115, 116, 117, 118, 119, 120, 121, 122, 48, 49, 50, 51, 52, 53, 54, 55, 56, 57] : Array UInt8)[n.val]'n.isLt = dig n.val := by decide +kernel
theorem digs_at (n : Nat) (h : n < 36) : ((⟨#[97, 98, 99, 100, 101, 102, 103, 104, 105, 106, 107, 108, 109, 110, 111, 112, 113, 114, 115, 116, 117, 118, 119, 120, 121, 122, 48, 49, 50, 51, 52, 53, 54, 55, 56, 57]⟩ : ByteArray)[n]'h) = dig n := digs_all ⟨n, h⟩

theorem BldO.drew {b : Nat} {o : Option Nat} {l : List UInt8} {w : World} (h : BldO b o l w) : BldO b o l w.drew := h
set_option maxHeartbeats 400000 in
set_option maxRecDepth 100000 in
theorem qdigit_any (b p : Nat) (o : Option Nat) (l : List UInt8) (n : Nat) (x : Int) (w : World) (hx : x = (n : Int)) (hn : n < 36) (h : BldO b o l w) (hl : l.length + 1 ≤ 1000000)
    (hp : w.cell? ⟨p, 0, none⟩ = some (.pointer (some ⟨b, 0, none⟩))) :
    Calls Try.prog 40 #[.int .i64 x, .pointer (some ⟨p, 0, none⟩)] w fun e w' => e = .returned (.tuple #[]) ∧ ∃ o', BldO b o' (l ++ [dig n]) w' ∧ OAt w o o' ∧ Kept (b :: o.toList) w w' := by
  subst hx
  have HD := Lib.hid h
  clear h
  have hni : (n : Int) < 36 := by omega
  go_enter Try.func40, Try.ntmps40
  go_wp2
  go_region_with (
    go_at_call 17
    rw [digs_at n hn]
    refine (bldo_byte b o l (dig n) _ _ ?_ rfl hl).mono ?_
    · exact HD.out.drew
    rintro e w1 ⟨rfl, o', hb1, hb2, hb3⟩)
  all_goals
    go_end0
    exact ⟨rfl, o', hb1, hb2, ((Kept.refl _ _).drew).trans hb3 (fun k hk => .inl hk)⟩

theorem OAt.refl (w : World) (o : Option Nat) : OAt w o o := .inl rfl
theorem OAt.trans {w w' : World} {o1 o2 o3 : Option Nat} (h1 : OAt w o1 o2) (hs : w.heap.size ≤ w'.heap.size) (h2 : OAt w' o2 o3) : OAt w o1 o3 := by
  rcases h2 with rfl | ⟨k, rfl, hk⟩
  · exact h1
  · exact .inr ⟨k, rfl, by omega⟩
/-- Kept, a builder's row moved on. -/
theorem Kept.onto {w w1 w2 : World} {b : Nat} {o o1 : Option Nat} (h : Kept (b :: o.toList) w w1) (ho : OAt w o o1) (h2 : Kept (b :: o1.toList) w1 w2) : Kept (b :: o.toList) w w2 := by
  refine h.trans h2 (fun k hk => ?_)
  rcases List.mem_cons.1 hk with rfl | hk
  · exact .inl (by simp)
  · rcases ho with rfl | ⟨k', rfl, hk'⟩
    · exact .inl (List.mem_cons_of_mem _ hk)
    · simp at hk; subst hk; exact .inr hk'

set_option maxHeartbeats 1000000 in
set_option maxRecDepth 100000 in
theorem qtell_any (b : Nat) (o : Option Nat) (l : List UInt8) (q bias : Nat) (x y : Int) (w : World) (hx : x = (q : Int)) (hy : y = (bias : Int)) (hq : q < 1000000000) (hb : bias ≤ 8589934592) (h : BldO b o l w) (hl : l.length ≤ 900000) :
    Calls Try.prog 24 #[.pointer (some ⟨b, 0, none⟩), .int .i64 x, .int .i64 y] w fun e w' => e = .returned (.tuple #[]) ∧ ∃ o', BldO b o' (l ++ tellK q bias 36) w' ∧ OAt w o o' ∧ Kept (b :: o.toList) w w' := by
  subst hx; subst hy
  have hmf : ∀ (fn : Fn) (first cap : Array Value) (w : World), (Instr.makeFunc fn first cap).run Try.prog w = .ok (.func fn first cap) w := fun _ _ _ _ => rfl
  have HD := Lib.hid h
  have HQ : Hid (∀ (q1 k : Nat), q1 ≤ q → (tellK q1 bias k).length ≤ 10) := fun q1 k hq1 => tellK_log bias 9 q1 k (by simp; omega)
  clear h
  go_enter Try.func24, Try.ntmps24
  go_wp2
  go_loopw [1, 7] (fun a k' wr => ∃ (q1 k : Nat) (l1 : List UInt8) (o1 : Option Nat), a = .int .i64 q1 ∧ k' = .int .i64 k ∧ BldO b o1 (l ++ l1) wr ∧ OAt w o o1 ∧ Kept (b :: o.toList) w wr ∧ l1 ++ tellK q1 bias k = tellK q bias 36 ∧ k + 36 * q1 ≤ 36 + 36 * q ∧ q1 ≤ q ∧ l1.length ≤ 10 ∧
     wr.cell? ⟨w.heap.size, 0, none⟩ = some (.pointer (some ⟨b, 0, none⟩)) ∧ o1 ≠ some w.heap.size) (fun a _ _ => (intOf a).toNat)
  case atStart =>
    have hh := HD.out
    refine ⟨q, 36, [], o, rfl, rfl, ?_, OAt.refl _ _, (Kept.refl _ _).alloc _, rfl, by omega, Nat.le_refl _, by simp, by simp, ?_⟩
    · rw [List.append_nil]
      exact hh.kept (S := []) ((Kept.refl _ _).alloc _) (by simp) (by simp)
    · intro e
      have := hh.olt _ e
      omega
  case round =>
    obtain ⟨q1, k, l1, o1, rfl, rfl, hB, hO, hK, hl1, hk, hq1, hl9, hc, hno⟩ := hrel
    have HB := Lib.hid hB
    have HOK := Lib.hid (And.intro hO hK)
    have HL := Lib.hid hl1
    have HN := Lib.hid hno
    have hltb := hB.lt
    have hbne : b ≠ w.heap.size := by have := HD.out.lt; omega
    have hwz := hK.size
    clear hB hO hK hl1 hno
    have ht := thr_pos k bias
    obtain ⟨t, htt⟩ : ∃ t, thr k bias = t := ⟨_, rfl⟩
    rw [htt] at ht
    obtain ⟨ht0, ht1⟩ := ht
    by_cases h : q1 < t
    · have HS := Lib.hid (tellK_small (bias := bias) (k := k) (q := q1) (by omega))
      have HT := Lib.hid htt
      clear htt
      go_wp2_with (first
        | (go_at_call 31; refine (qthr_any k bias _ _ _ rfl rfl (by omega) (by omega)).mono ?_; rintro e w' ⟨rfl, rfl⟩; rw [HT.out])
        | (go_at_call 40; refine (qdigit_any b w.heap.size o1 (l ++ l1) q1 _ _ rfl (by omega) HB.out (by rw [List.length_append]; omega) hc).mono ?_; rintro e w1 ⟨rfl, o2, hb1, hb2, hb3⟩))
      refine bodyPost_ret (results_none rfl _ _ _) rfl ?_
      refine ⟨rfl, o2, ?_, HOK.out.1.trans HOK.out.2.size hb2, HOK.out.2.onto HOK.out.1 hb3⟩
      rw [← HL.out, HS.out, ← List.append_assoc]
      exact hb1
    · have HS := Lib.hid (tellK_more (bias := bias) (k := k) (q := q1) (by omega))
      rw [htt] at HS
      have HT := Lib.hid htt
      clear htt
      obtain ⟨r, hr⟩ : ∃ r, (q1 - t) % (36 - t) = r := ⟨_, rfl⟩
      obtain ⟨q2, hq2⟩ : ∃ q2, (q1 - t) / (36 - t) = q2 := ⟨_, rfl⟩
      rw [hr, hq2] at HS
      have hr0 : r < 36 - t := by rw [← hr]; exact Nat.mod_lt _ (by omega)
      have hq20 : q2 ≤ q1 - t := by rw [← hq2]; exact Nat.div_le_self _ _
      have hri : ((q1 : Int) - (t : Int)) % (36 - (t : Int)) = (r : Int) := by
        rw [← hr, Int.natCast_emod]; congr 1 <;> omega
      have hqi : ((q1 : Int) - (t : Int)) / (36 - (t : Int)) = (q2 : Int) := by
        rw [← hq2, Int.natCast_ediv]; congr 1 <;> omega
      clear hr hq2
      have hl10 : l1.length + 1 ≤ 10 := by
        have h1 := HQ.out q 36 (Nat.le_refl _)
        rw [← HL.out, HS.out, List.length_append, List.length_cons] at h1
        have h2 := List.length_pos_iff.2 (tellK_ne bias q2 (k + 36))
        omega
      go_wp2_with (first
        | (go_at_call 31; refine (qthr_any k bias _ _ _ rfl rfl (by omega) (by omega)).mono ?_; rintro e w' ⟨rfl, rfl⟩; rw [HT.out])
        | (go_at_call 40; refine (qdigit_any b w.heap.size o1 (l ++ l1) (t + r) _ _ (by omega) (by omega) HB.out (by rw [List.length_append]; omega) hc).mono ?_; rintro e w1 ⟨rfl, o2, hb1, hb2, hb3⟩))
      have hc1 : w1.cell? ⟨w.heap.size, 0, none⟩ = some (.pointer (some ⟨b, 0, none⟩)) := by
        rw [hb3.cell (p := ⟨w.heap.size, 0, none⟩) ?_ ?_]
        · exact hc
        · rcases Nat.lt_or_ge w.heap.size wr.heap.size with h' | h'
          · exact h'
          · simp [World.cell?, Array.getElem?_eq_none h'] at hc
        · have := HN.out
          simp only [List.mem_cons, not_or]
          refine ⟨fun e => hbne e.symm, ?_⟩
          cases o1 with
          | none => simp
          | some g => simp; rintro rfl; exact this rfl
      have hno2 : o2 ≠ some w.heap.size := by
        rcases hb2 with rfl | ⟨g, rfl, hg⟩
        · exact HN.out
        · intro e
          simp at e
          subst e
          rcases Nat.lt_or_ge w.heap.size wr.heap.size with h' | h'
          · omega
          · simp [World.cell?, Array.getElem?_eq_none h'] at hc
      go_roundw
      case rel => exact ⟨q2, k + 36, l1 ++ [dig (t + r)], o2, by go_num, by go_num, by rw [← List.append_assoc]; exact hb1, HOK.out.1.trans hwz hb2, HOK.out.2.onto HOK.out.1 hb3, by rw [List.append_assoc, ← HL.out, HS.out]; rfl, by omega, by omega, by simp; omega, hc1, hno2⟩
      case measure => simp [intOf]; omega
end Go.Proofs.Ytmnpefpglpabmaa

/-
  number of the law of layer 10 (written by mkschnum.py).
-/
import Derived.Deep.RegionWith
import Derived.Test.YtcndcdkcbkjbaaaDoorSchCon
import Derived.Deep.AppendLies
namespace Go.Proofs.YtcndcdkcbkjbaaaDoor
open Go.RowKit

def TextN10 (s : ByteArray) (w : World) (e : Ending) (w' : World) : Prop := e = .returned (.string s) ∧ Below w.heap.size w w'
theorem s10btx_append (a b : List UInt8) : txt10 (a ++ b) = txt10 a ++ txt10 b := by
  apply ByteArray.ext
  rw [ByteArray.data_append]
  apply Array.toList_inj.1
  simp [txt10]
theorem s10conv_one (W : World) (g : Nat) (hg : W.heap.size = g) (c : Int) (b : UInt8) (hc : c = (b.toNat : Int)) :
    (convert 47 9 (.slice (some ⟨g, 0, none⟩) 1 1)).run Tryd.prog (W.alloc (.cells #[.int .u8 c] 5)) = .ok (.string (txt10 [b])) (W.alloc (.cells #[.int .u8 c] 5)) := by
  subst hg hc
  exact run_convert_bytes_back (W.alloc (.cells #[.int .u8 (b.toNat : Int)] 5)) _ _ _ ⟨W.heap.size, 0, none⟩ 1 [b] Tryd.underlying47 Tryd.underlying5 Tryd.underlying9 (fun j hj => by
    obtain rfl : j = 0 := by simp at hj; omega
    simp [Addr.add])
theorem s10fig7 {d : Nat} {c : Int} (hd : d < 10) (hc : c = 48 + (d : Int)) : c = ((UInt8.ofNat (48 + d)).toNat : Int) := by
  rw [hc]
  have : (48 + d) % 256 = 48 + d := by omega
  simp [this]
theorem s10btx_dec {n : Nat} (h : ¬ n < 10) {f : UInt8} (hf : UInt8.ofNat (48 + n % 10) = f) : txt10 (dcm10 n) = txt10 (dcm10 (n / 10)) ++ txt10 [f] := by
  rw [← s10btx_append]
  congr 1
  conv => lhs; unfold dcm10
  rw [if_neg h, hf]
theorem s10btx_fig {n : Nat} (h : n < 10) {f : UInt8} (hf : UInt8.ofNat (48 + n) = f) : txt10 (dcm10 n) = txt10 [f] := by
  congr 1
  unfold dcm10
  rw [if_pos h, hf]

theorem s10conv_at (W : World) (g : Nat) (b : UInt8) (hc : W.cell? ⟨g, 0, none⟩ = some (.int .u8 (b.toNat : Int))) :
    (convert 47 9 (.slice (some ⟨g, 0, none⟩) 1 1)).run Tryd.prog W = .ok (.string (txt10 [b])) W :=
  run_convert_bytes_back W _ _ _ ⟨g, 0, none⟩ 1 [b] Tryd.underlying47 Tryd.underlying5 Tryd.underlying9 (fun j hj => by
    obtain rfl : j = 0 := by simp at hj; omega
    simpa [Addr.add] using hc)

theorem s10conv_kept {W w1 : World} {g : Nat} {b : UInt8} (hc : W.cell? ⟨g, 0, none⟩ = some (.int .u8 (b.toNat : Int))) (h : Below W.heap.size W w1) :
    (convert 47 9 (.slice (some ⟨g, 0, none⟩) 1 1)).run Tryd.prog w1 = .ok (.string (txt10 [b])) w1 := by
  refine s10conv_at w1 g b ((h.cell (p := ⟨g, 0, none⟩) ?_).trans hc)
  rcases Nat.lt_or_ge g W.heap.size with h' | h'
  · exact h'
  · simp [World.cell?, Array.getElem?_eq_none h'] at hc

theorem s10bw1 {w w1 : World} (h : Below w.drew.heap.size w.drew w1) : Below w.heap.size w w1 := (below_drewN (Below.refl _ w) 1).trans h
theorem s10bw2 {w w1 : World} {o : Obj} (h : Below (w.alloc o).drew.heap.size (w.alloc o).drew w1) : Below w.heap.size w w1 :=
  ((Below.refl _ w).alloc (Nat.le_refl _) o).trans ((s10bw1 h).mono (by simp))
theorem s10bw3 {w w1 : World} {o : Obj} (h : Below (w.drew.alloc o).heap.size (w.drew.alloc o) w1) : Below w.heap.size w w1 :=
  s10bw1 (((Below.refl _ w.drew).alloc (Nat.le_refl _) o).trans (h.mono (by simp)))
theorem s10bw4 {w w1 : World} {o : Obj} (h : Below (w.alloc o).heap.size (w.alloc o) w1) : Below w.heap.size w w1 :=
  ((Below.refl _ w).alloc (Nat.le_refl _) o).trans (h.mono (by simp))

set_option maxHeartbeats 2000000 in
set_option maxRecDepth 100000 in
theorem s10num10_small (n : Nat) (w : World) (hn : n < 10) :
    Calls Tryd.prog 21 #[.int .i64 (n : Int)] w (TextN10 (txt10 (dcm10 n)) w) := by
  obtain ⟨f, hf⟩ : ∃ f, UInt8.ofNat (48 + n) = f := ⟨_, rfl⟩
  have HR := Lib.hid (s10btx_fig hn hf)
  have g : 48 + (n : Int) = (f.toNat : Int) := by rw [← hf]; exact s10fig7 hn rfl
  have e := f.toNat_lt
  have hcv := s10conv_one w w.heap.size rfl (f.toNat : Int) f rfl
  clear hf
  go_enter Tryd.func21, Tryd.ntmps21
  go_wp2
  go_ret
  exact ⟨by rw [HR.out]; rfl, (Below.refl _ _).alloc (Nat.le_refl _) _⟩

set_option maxHeartbeats 400000 in
set_option maxRecDepth 100000 in
theorem s10num10_more (n : Nat) (w : World) (hn : ¬ n < 10) (hb : n < 1000000) (ih : ∀ w, Calls Tryd.prog 21 #[.int .i64 ((n / 10 : Nat) : Int)] w (TextN10 (txt10 (dcm10 (n / 10))) w)) :
    Calls Tryd.prog 21 #[.int .i64 (n : Int)] w (TextN10 (txt10 (dcm10 n)) w) := by
  obtain ⟨f, hf⟩ : ∃ f, UInt8.ofNat (48 + n % 10) = f := ⟨_, rfl⟩
  have HR := Lib.hid (s10btx_dec hn hf)
  have hl : (txt10 (dcm10 (n / 10))).size ≤ 10 := by rw [txt10_size]; exact Nat.le_trans (dcm10_len 5 (n / 10) (by omega)) (by omega)
  obtain ⟨t, ht⟩ : ∃ t, txt10 (dcm10 (n / 10)) = t := ⟨_, rfl⟩
  rw [ht] at HR ih hl
  have g : 48 + (n : Int) % 10 = (f.toNat : Int) := by rw [← hf]; exact s10fig7 (by omega) (by omega)
  have e := f.toNat_lt
  obtain ⟨q, hq⟩ : ∃ q, n / 10 = q := ⟨_, rfl⟩
  rw [hq] at ih
  have hqi : (n : Int) / 10 = (q : Int) := by omega
  have hql : q < 1000000 := by omega
  have HIh := Lib.hid ih
  have hf1 : (txt10 [f]).size = 1 := by rw [txt10_size]; rfl
  clear hf ih ht hq
  go_enter Tryd.func21, Tryd.ntmps21
  go_wp2_with fail
  have hd1 : (n : Int).tdiv 10 = (q : Int) := by rw [Int.tdiv_eq_ediv_of_nonneg (by omega)]; exact hqi
  obtain ⟨r, hr⟩ : ∃ r, n % 10 = r := ⟨_, rfl⟩
  have hr1 : r < 10 := by omega
  have hd2 : (n : Int).tmod 10 = (r : Int) := by rw [Int.tmod_eq_emod_of_nonneg (by omega)]; omega
  have hd3 : (n : Int) % 10 = (r : Int) := by omega
  have g' : 48 + (r : Int) = (f.toNat : Int) := by omega
  have hw1 : IntKind.i64.wrap (q : Int) = (q : Int) := by simp [IntKind.wrap, IntKind.bits, IntKind.signed]; omega
  have hw2 : IntKind.i64.wrap (r : Int) = (r : Int) := by simp [IntKind.wrap, IntKind.bits, IntKind.signed]; omega
  have hw3 : IntKind.i64.wrap (f.toNat : Int) = (f.toNat : Int) := by simp [IntKind.wrap, IntKind.bits, IntKind.signed]; omega
  have hw4 : IntKind.u8.wrap (f.toNat : Int) = (f.toNat : Int) := by simp [IntKind.wrap, IntKind.bits, IntKind.signed]; omega
  have hcv := s10conv_one w w.heap.size rfl (f.toNat : Int) f rfl
  have hcv2 := s10conv_one w.drew w.heap.size rfl (f.toNat : Int) f rfl
  have c1 : (w.drew.alloc (.cells #[.int .u8 (f.toNat : Int)] 5)).cell? ⟨w.heap.size, 0, none⟩ = some (.int .u8 (f.toNat : Int)) := World.cell?_alloc_at _ _ _ _ rfl
  have c2 : (w.alloc (.cells #[.int .u8 (f.toNat : Int)] 5)).drew.cell? ⟨w.heap.size, 0, none⟩ = some (.int .u8 (f.toNat : Int)) := World.cell?_alloc_at (w := w) _ _ _ _ rfl
  have c3 : (w.alloc (.cells #[.int .u8 (f.toNat : Int)] 5)).cell? ⟨w.heap.size, 0, none⟩ = some (.int .u8 (f.toNat : Int)) := World.cell?_alloc_at _ _ _ _ rfl
  have hcv6 := s10conv_at _ _ _ c2
  clear hr g hn
  go_region_with (first
    | (go_at_call 21; (with_reducible refine (HIh.out _).mono ?_); rintro e w1 ⟨rfl, hb1⟩; (first | have HB1 := Lib.hid (s10bw1 (w := w) hb1) | have HB1 := Lib.hid (s10bw2 (w := w) hb1) | have HB1 := Lib.hid (s10bw3 (w := w) hb1) | have HB1 := Lib.hid (s10bw4 (w := w) hb1)); have hcv3 := s10conv_one w1 w1.heap.size rfl (f.toNat : Int) f rfl; (first | have hcv4 := s10conv_kept c1 hb1 | have hcv4 := s10conv_kept c2 hb1 | have hcv4 := s10conv_kept c3 hb1 | skip); clear hb1))
  all_goals
    go_wp2
    go_ret
    refine ⟨by rw [HR.out]; rfl, ?_⟩
    first
    | exact HB1.out
    | exact HB1.out.alloc HB1.out.size _
theorem s10num10_any : ∀ (n : Nat) (w : World), n < 1000000 → Calls Tryd.prog 21 #[.int .i64 (n : Int)] w (TextN10 (txt10 (dcm10 n)) w) := by
  intro n
  induction n using Nat.strongRecOn with
  | ind n ih =>
    intro w hn
    by_cases h : n < 10
    · exact s10num10_small n w h
    · exact s10num10_more n w h hn (fun w => ih (n / 10) (by omega) w (by omega))
theorem num_is10 {n : Nat} {t : ByteArray} (h : txt10 (dcm10 n) = t) (hn : n < 1000000) (w : World) : Calls Tryd.prog 21 #[.int .i64 (n : Int)] w fun e w' => e = .returned (.string t) ∧ Below w.heap.size w w' := by
  have := s10num10_any n w hn
  rw [h] at this
  exact this
end Go.Proofs.YtcndcdkcbkjbaaaDoor

/-
  In this text, one behind the other: XCon, XForms, XLawsF.
-/
import Derived.Deep.RegionHeld3
import Derived.Deep.AppendLies
import Derived.Test.YtbdedjokahopmaaDoorG2
/-
  What the program's Parse, Text and Ends of layer 7 are held against: their contracts, as hypotheses; the example.
-/
namespace Go.Proofs.YtbdedjokahopmaaDoor
open Go.RowKit

theorem bnext7 {w a b : World} (h : Below w.heap.size w a) (k : Below a.heap.size a b) : Below w.heap.size w b := h.trans (k.mono h.size)
def Yes7 (w : World) (e : Ending) (w' : World) : Prop := e = .returned (.bool true) ∧ Below w.heap.size w w'
/-- An address and no error; or 0 and an error of this number. -/
def AddrPost (r : Nat × Nat) (w : World) (e : Ending) (w' : World) : Prop := match r.1 with
  | 0 => e = .returned (.tuple #[.int .u32 (r.2 : Nat), .nilIface]) ∧ Below w.heap.size w w'
  | n + 1 => ∃ cs u x, e = .returned (.tuple #[.int .u32 0, .iface u x]) ∧ Chain w' cs (some ((n + 1 : Nat) : Int)) (.iface u x) ∧ Below w.heap.size w w'
/-- The program's Parse, Text and Ends do as the document says, in every world behind w0. -/
structure IpC (w0 : World) : Prop where
  parse : ∀ (s : ByteArray) (w : World), Below w0.heap.size w0 w → s.size ≤ 200 → Calls Tryd.prog 9 #[.string s] w (AddrPost (parse7 s.data.toList) w)
  text : ∀ (a : Nat) (w : World), Below w0.heap.size w0 w → a < 4294967296 → Calls Tryd.prog 14 #[.int .u32 (a : Int)] w (TextPost7 (btx (text7 a)) w)
  ends : ∀ (s : ByteArray) (w : World), Below w0.heap.size w0 w → s.size ≤ 200 → Calls Tryd.prog 12 #[.string s] w (BoolPost (ends7 s.data.toList) w)

theorem parse_ok {w0 : World} (C : IpC w0) {s : ByteArray} {a : Nat} (h : parse7 s.data.toList = (0, a)) (hs : s.size ≤ 200) (w : World) (hw : Below w0.heap.size w0 w) :
    Calls Tryd.prog 9 #[.string s] w fun e w' => e = .returned (.tuple #[.int .u32 (a : Nat), .nilIface]) ∧ Below w.heap.size w w' := by
  have := C.parse s w hw hs
  rw [h] at this
  exact this
theorem parse_no {w0 : World} (C : IpC w0) {s : ByteArray} {n : Nat} (h : parse7 s.data.toList = (n + 1, 0)) (hs : s.size ≤ 200) (w : World) (hw : Below w0.heap.size w0 w) :
    Calls Tryd.prog 9 #[.string s] w fun e w' => ∃ cs u x, e = .returned (.tuple #[.int .u32 0, .iface u x]) ∧ Chain w' cs (some ((n + 1 : Nat) : Int)) (.iface u x) ∧ Below w.heap.size w w' := by
  have := C.parse s w hw hs
  rw [h] at this
  exact this
theorem text_is {w0 : World} (C : IpC w0) {a : Nat} {t : ByteArray} (h : btx (text7 a) = t) (ha : a < 4294967296) (w : World) (hw : Below w0.heap.size w0 w) :
    Calls Tryd.prog 14 #[.int .u32 (a : Int)] w fun e w' => e = .returned (.string t) ∧ Below w.heap.size w w' := by
  have := C.text a w hw ha
  rw [h] at this
  exact this
theorem ends_is {w0 : World} (C : IpC w0) {s : ByteArray} {b : Bool} (h : ends7 s.data.toList = b) (hs : s.size ≤ 200) (w : World) (hw : Below w0.heap.size w0 w) :
    Calls Tryd.prog 12 #[.string s] w fun e w' => e = .returned (.bool b) ∧ Below w.heap.size w w' := by
  have := C.ends s w hw hs
  rw [h] at this
  exact this
theorem aw_a : parse7 (⟨#[48, 120, 55, 102, 46, 49]⟩ : ByteArray).data.toList = (0, 2130706433) := by decide +kernel
theorem aw_b : parse7 (⟨#[49, 46, 50, 46, 51, 46, 52, 46, 53]⟩ : ByteArray).data.toList = (1 + 1, 0) := by decide +kernel
theorem aw_c : parse7 (⟨#[50, 53, 54, 46, 49]⟩ : ByteArray).data.toList = (2 + 1, 0) := by decide +kernel
theorem aw_d : btx (text7 2130706433) = ⟨#[49, 50, 55, 46, 48, 46, 48, 46, 49]⟩ := by decide +kernel
theorem aw_e : ends7 (⟨#[97, 46, 48, 57, 46]⟩ : ByteArray).data.toList = true := by decide +kernel
theorem aw_f : ends7 (⟨#[97, 46, 98]⟩ : ByteArray).data.toList = false := by decide +kernel
theorem ip_a {w0 : World} (C : IpC w0) (w : World) (hw : Below w0.heap.size w0 w) : Calls Tryd.prog 9 #[.string ⟨#[48, 120, 55, 102, 46, 49]⟩] w fun e w' => e = .returned (.tuple #[.int .u32 2130706433, .nilIface]) ∧ Below w.heap.size w w' := parse_ok C aw_a (by decide) w hw
theorem ip_b {w0 : World} (C : IpC w0) (w : World) (hw : Below w0.heap.size w0 w) : Calls Tryd.prog 9 #[.string ⟨#[49, 46, 50, 46, 51, 46, 52, 46, 53]⟩] w fun e w' => ∃ cs u x, e = .returned (.tuple #[.int .u32 0, .iface u x]) ∧ Chain w' cs (some 2) (.iface u x) ∧ Below w.heap.size w w' := parse_no C aw_b (by decide) w hw
theorem ip_c {w0 : World} (C : IpC w0) (w : World) (hw : Below w0.heap.size w0 w) : Calls Tryd.prog 9 #[.string ⟨#[50, 53, 54, 46, 49]⟩] w fun e w' => ∃ cs u x, e = .returned (.tuple #[.int .u32 0, .iface u x]) ∧ Chain w' cs (some 3) (.iface u x) ∧ Below w.heap.size w w' := parse_no C aw_c (by decide) w hw
theorem ip_d {w0 : World} (C : IpC w0) (w : World) (hw : Below w0.heap.size w0 w) : Calls Tryd.prog 14 #[.int .u32 2130706433] w fun e w' => e = .returned (.string ⟨#[49, 50, 55, 46, 48, 46, 48, 46, 49]⟩) ∧ Below w.heap.size w w' := text_is C aw_d (by decide) w hw
theorem ip_e {w0 : World} (C : IpC w0) (w : World) (hw : Below w0.heap.size w0 w) : Calls Tryd.prog 12 #[.string ⟨#[97, 46, 48, 57, 46]⟩] w fun e w' => e = .returned (.bool true) ∧ Below w.heap.size w w' := ends_is C aw_e (by decide) w hw
theorem ip_f {w0 : World} (C : IpC w0) (w : World) (hw : Below w0.heap.size w0 w) : Calls Tryd.prog 12 #[.string ⟨#[97, 46, 98]⟩] w fun e w' => e = .returned (.bool false) ∧ Below w.heap.size w w' := ends_is C aw_f (by decide) w hw

set_option maxHeartbeats 2000000 in
set_option maxRecDepth 100000 in
theorem awake7 {w : World} (C : IpC w) : Calls Tryd.prog 8 #[] w (Yes7 w) := by
  have HC := Lib.hid C
  have HB := Lib.hid (Below.refl w.heap.size w)
  clear C
  go_enter Tryd.func8, Tryd.ntmps8
  go_wp2_with (first
    | (go_at_call 9; (with_reducible refine (ip_a HC.out _ HB.out).mono ?_); rintro e w1 ⟨rfl, hb⟩; have HB := Lib.hid (bnext7 HB.out hb); clear hb)
    | (go_at_call 9; (with_reducible refine (ip_b HC.out _ HB.out).mono ?_); rintro e w2 ⟨cs2, u2, x2, rfl, hch, hb⟩; have HC2 := Lib.hid hch; have HB := Lib.hid (bnext7 HB.out hb); clear hb hch)
    | (go_at_call 9; (with_reducible refine (ip_c HC.out _ HB.out).mono ?_); rintro e w3 ⟨cs3, u3, x3, rfl, hch, hb⟩; have HC3 := Lib.hid hch; have HC2 := Lib.hid (HC2.out.below hb); have HB := Lib.hid (bnext7 HB.out hb); clear hb hch)
    | (go_at_call 14; (with_reducible refine (ip_d HC.out _ HB.out).mono ?_); rintro e w4 ⟨rfl, hb⟩; have HC3 := Lib.hid (HC3.out.below hb); have HC2 := Lib.hid (HC2.out.below hb); have HB := Lib.hid (bnext7 HB.out hb); clear hb)
    | (go_at_call 12; (with_reducible refine (ip_e HC.out _ HB.out).mono ?_); rintro e w5 ⟨rfl, hb⟩; have HC3 := Lib.hid (HC3.out.below hb); have HC2 := Lib.hid (HC2.out.below hb); have HB := Lib.hid (bnext7 HB.out hb); clear hb)
    | (go_at_call 12; (with_reducible refine (ip_f HC.out _ HB.out).mono ?_); rintro e w6 ⟨rfl, hb⟩; have HC3 := Lib.hid (HC3.out.below hb); have HC2 := Lib.hid (HC2.out.below hb); have HB := Lib.hid (bnext7 HB.out hb); clear hb)
    | (go_at_call 16; (with_reducible refine (is_any _ 2 2 u2 x2 _ HC2.out).mono ?_); rintro e w' ⟨rfl, rfl⟩)
    | (go_at_call 16; (with_reducible refine (is_any _ 3 3 u3 x3 _ HC3.out).mono ?_); rintro e w' ⟨rfl, rfl⟩))
  go_ret
  exact ⟨rfl, HB.out⟩
end Go.Proofs.YtbdedjokahopmaaDoor

/-
  IpfourForms, walked over the program's contracts: whatever the input, true.
-/
namespace Go.Proofs.YtbdedjokahopmaaDoor
open Go.RowKit

theorem btx_dec {n : Nat} (h : ¬ n < 10) {f : UInt8} (hf : UInt8.ofNat (48 + n % 10) = f) : btx (dec10 n) = btx (dec10 (n / 10)) ++ btx [f] := by
  rw [← btx_append]
  congr 1
  conv => lhs; unfold dec10
  rw [if_neg h, hf]
theorem btx_fig {n : Nat} (h : n < 10) {f : UInt8} (hf : UInt8.ofNat (48 + n) = f) : btx (dec10 n) = btx [f] := by
  congr 1
  unfold dec10
  rw [if_pos h, hf]

theorem conv_at (W : World) (g : Nat) (b : UInt8) (hc : W.cell? ⟨g, 0, none⟩ = some (.int .u8 (b.toNat : Int))) :
    (convert 51 9 (.slice (some ⟨g, 0, none⟩) 1 1)).run Tryd.prog W = .ok (.string (btx [b])) W :=
  run_convert_bytes_back W _ _ _ ⟨g, 0, none⟩ 1 [b] Tryd.underlying51 Tryd.underlying5 Tryd.underlying9 (fun j hj => by
    obtain rfl : j = 0 := by simp at hj; omega
    simpa [Addr.add] using hc)

theorem conv_kept {W w1 : World} {g : Nat} {b : UInt8} (hc : W.cell? ⟨g, 0, none⟩ = some (.int .u8 (b.toNat : Int))) (h : Below W.heap.size W w1) :
    (convert 51 9 (.slice (some ⟨g, 0, none⟩) 1 1)).run Tryd.prog w1 = .ok (.string (btx [b])) w1 := by
  refine conv_at w1 g b ((h.cell (p := ⟨g, 0, none⟩) ?_).trans hc)
  rcases Nat.lt_or_ge g W.heap.size with h' | h'
  · exact h'
  · simp [World.cell?, Array.getElem?_eq_none h'] at hc

theorem bw1 {w w1 : World} (h : Below w.drew.heap.size w.drew w1) : Below w.heap.size w w1 := (below_drewN (Below.refl _ w) 1).trans h
theorem bw2 {w w1 : World} {o : Obj} (h : Below (w.alloc o).drew.heap.size (w.alloc o).drew w1) : Below w.heap.size w w1 :=
  ((Below.refl _ w).alloc (Nat.le_refl _) o).trans ((bw1 h).mono (by simp))
theorem bw3 {w w1 : World} {o : Obj} (h : Below (w.drew.alloc o).heap.size (w.drew.alloc o) w1) : Below w.heap.size w w1 :=
  bw1 (((Below.refl _ w.drew).alloc (Nat.le_refl _) o).trans (h.mono (by simp)))
theorem bw4 {w w1 : World} {o : Obj} (h : Below (w.alloc o).heap.size (w.alloc o) w1) : Below w.heap.size w w1 :=
  ((Below.refl _ w).alloc (Nat.le_refl _) o).trans (h.mono (by simp))

set_option maxHeartbeats 2000000 in
set_option maxRecDepth 100000 in
theorem num10_small (n : Nat) (w : World) (hn : n < 10) :
    Calls Tryd.prog 17 #[.int .u32 (n : Int)] w (TextPost7 (btx (dec10 n)) w) := by
  obtain ⟨f, hf⟩ : ∃ f, UInt8.ofNat (48 + n) = f := ⟨_, rfl⟩
  have HR := Lib.hid (btx_fig hn hf)
  have g : 48 + (n : Int) = (f.toNat : Int) := by rw [← hf]; exact fig7 hn rfl
  have e := f.toNat_lt
  have hcv := conv_one w w.heap.size rfl (f.toNat : Int) f rfl
  clear hf
  go_enter Tryd.func17, Tryd.ntmps17
  go_wp2
  go_ret
  exact ⟨by rw [HR.out]; rfl, (Below.refl _ _).alloc (Nat.le_refl _) _⟩

set_option maxHeartbeats 400000 in
set_option maxRecDepth 100000 in
theorem num10_more (n : Nat) (w : World) (hn : ¬ n < 10) (hb : n < 4294967296) (ih : ∀ w, Calls Tryd.prog 17 #[.int .u32 ((n / 10 : Nat) : Int)] w (TextPost7 (btx (dec10 (n / 10))) w)) :
    Calls Tryd.prog 17 #[.int .u32 (n : Int)] w (TextPost7 (btx (dec10 n)) w) := by
  obtain ⟨f, hf⟩ : ∃ f, UInt8.ofNat (48 + n % 10) = f := ⟨_, rfl⟩
  have HR := Lib.hid (btx_dec hn hf)
  have hl : (btx (dec10 (n / 10))).size ≤ 10 := by rw [btx_size]; exact dec10_len 9 (by omega)
  obtain ⟨t, ht⟩ : ∃ t, btx (dec10 (n / 10)) = t := ⟨_, rfl⟩
  rw [ht] at HR ih hl
  have g : 48 + (n : Int) % 10 = (f.toNat : Int) := by rw [← hf]; exact fig7 (by omega) (by omega)
  have e := f.toNat_lt
  obtain ⟨q, hq⟩ : ∃ q, n / 10 = q := ⟨_, rfl⟩
  rw [hq] at ih
  have hqi : (n : Int) / 10 = (q : Int) := by omega
  have hql : q < 4294967296 := by omega
  have HIh := Lib.hid ih
  have hf1 : (btx [f]).size = 1 := by rw [btx_size]; rfl
  clear hf ih ht hq
  go_enter Tryd.func17, Tryd.ntmps17
  go_wp2_with fail
  have hd1 : (n : Int).tdiv 10 = (q : Int) := by rw [Int.tdiv_eq_ediv_of_nonneg (by omega)]; exact hqi
  obtain ⟨r, hr⟩ : ∃ r, n % 10 = r := ⟨_, rfl⟩
  have hr1 : r < 10 := by omega
  have hd2 : (n : Int).tmod 10 = (r : Int) := by rw [Int.tmod_eq_emod_of_nonneg (by omega)]; omega
  have hd3 : (n : Int) % 10 = (r : Int) := by omega
  have g' : 48 + (r : Int) = (f.toNat : Int) := by omega
  have hw1 : IntKind.u32.wrap (q : Int) = (q : Int) := by simp [IntKind.wrap, IntKind.bits, IntKind.signed]; omega
  have hw2 : IntKind.u32.wrap (r : Int) = (r : Int) := by simp [IntKind.wrap, IntKind.bits, IntKind.signed]; omega
  have hw3 : IntKind.u32.wrap (f.toNat : Int) = (f.toNat : Int) := by simp [IntKind.wrap, IntKind.bits, IntKind.signed]; omega
  have hw4 : IntKind.u8.wrap (f.toNat : Int) = (f.toNat : Int) := by simp [IntKind.wrap, IntKind.bits, IntKind.signed]; omega
  have hcv := conv_one w w.heap.size rfl (f.toNat : Int) f rfl
  have hcv2 := conv_one w.drew w.heap.size rfl (f.toNat : Int) f rfl
  have c1 : (w.drew.alloc (.cells #[.int .u8 (f.toNat : Int)] 5)).cell? ⟨w.heap.size, 0, none⟩ = some (.int .u8 (f.toNat : Int)) := World.cell?_alloc_at _ _ _ _ rfl
  have c2 : (w.alloc (.cells #[.int .u8 (f.toNat : Int)] 5)).drew.cell? ⟨w.heap.size, 0, none⟩ = some (.int .u8 (f.toNat : Int)) := World.cell?_alloc_at (w := w) _ _ _ _ rfl
  have c3 : (w.alloc (.cells #[.int .u8 (f.toNat : Int)] 5)).cell? ⟨w.heap.size, 0, none⟩ = some (.int .u8 (f.toNat : Int)) := World.cell?_alloc_at _ _ _ _ rfl
  have hcv6 := conv_at _ _ _ c2
  clear hr g hn
  go_region_held3 (fun _ => True) (trivial) (first
    | (go_at_call 17; (with_reducible refine (HIh.out _).mono ?_); rintro e w1 ⟨rfl, hb1⟩; (first | have HB1 := Lib.hid (bw1 (w := w) hb1) | have HB1 := Lib.hid (bw2 (w := w) hb1) | have HB1 := Lib.hid (bw3 (w := w) hb1) | have HB1 := Lib.hid (bw4 (w := w) hb1)); have hcv3 := conv_one w1 w1.heap.size rfl (f.toNat : Int) f rfl; (first | have hcv4 := conv_kept c1 hb1 | have hcv4 := conv_kept c2 hb1 | have hcv4 := conv_kept c3 hb1 | skip); clear hb1))
  all_goals
    go_wp2
    go_ret
    refine ⟨by rw [HR.out]; rfl, ?_⟩
    first
    | exact HB1.out
    | exact HB1.out.alloc HB1.out.size _
theorem num10_any : ∀ (n : Nat) (w : World), n < 4294967296 → Calls Tryd.prog 17 #[.int .u32 (n : Int)] w (TextPost7 (btx (dec10 n)) w) := by
  intro n
  induction n using Nat.strongRecOn with
  | ind n ih =>
    intro w hn
    by_cases h : n < 10
    · exact num10_small n w h
    · exact num10_more n w h hn (fun w => ih (n / 10) (by omega) w (by omega))
theorem num10_is {n : Nat} {t : ByteArray} (h : btx (dec10 n) = t) (hn : n < 4294967296) (w : World) : Calls Tryd.prog 17 #[.int .u32 (n : Int)] w fun e w' => e = .returned (.string t) ∧ Below w.heap.size w w' := by
  have := num10_any n w hn
  rw [h] at this
  exact this
end Go.Proofs.YtbdedjokahopmaaDoor

/-
  IpfourForms, walked over the program's contracts: whatever the input, true.
-/
namespace Go.Proofs.YtbdedjokahopmaaDoor
open Go.RowKit

theorem dec10_ten {n : Nat} (h : n < 4294967296) : (dec10 n).length ≤ 10 := dec10_len 9 (by omega)
set_option maxHeartbeats 4000000 in
set_option maxRecDepth 100000 in
theorem law_forms7 (a : Int) (b : Int) (w : World) (h0 : 0 ≤ a) (h1 : a ≤ 4294967295) (h2 : 0 ≤ b) (h3 : b ≤ 255) (C : IpC w) : Calls Tryd.prog 7 #[.int .u32 a, .int .u8 b] w (Yes7 w) := by
  obtain ⟨n, rfl⟩ : ∃ n : Nat, a = n := ⟨a.toNat, by omega⟩
  obtain ⟨m, rfl⟩ : ∃ m : Nat, b = m := ⟨b.toNat, by omega⟩
  have hn : n < 4294967296 := by omega
  have hm : m < 256 := by omega
  have hm2 : m < 4294967296 := by omega
  have HC := Lib.hid C
  clear C h0 h1 h2 h3
  obtain ⟨c, hc⟩ : ∃ c, n % 16777216 = c := ⟨_, rfl⟩
  obtain ⟨d, hd⟩ : ∃ d, n % 65536 = d := ⟨_, rfl⟩
  have hc1 : c < 16777216 := by omega
  have hd1 : d < 65536 := by omega
  have hc2 : c < 4294967296 := by omega
  have hd2 : d < 4294967296 := by omega
  have hci : (n : Int) % 16777216 = (c : Int) := by omega
  have hdi : (n : Int) % 65536 = (d : Int) := by omega
  obtain ⟨ta, hta⟩ : ∃ t, btx (dec10 n) = t := ⟨_, rfl⟩
  obtain ⟨tb, htb⟩ : ∃ t, btx (dec10 m) = t := ⟨_, rfl⟩
  obtain ⟨tc, htc⟩ : ∃ t, btx (dec10 c) = t := ⟨_, rfl⟩
  obtain ⟨td, htd⟩ : ∃ t, btx (dec10 d) = t := ⟨_, rfl⟩
  have HTa := Lib.hid hta
  have HTb := Lib.hid htb
  have HTc := Lib.hid htc
  have HTd := Lib.hid htd
  have la : ta.size ≤ 10 := by rw [← hta, btx_size]; exact dec10_ten hn
  have lb : tb.size ≤ 10 := by rw [← htb, btx_size]; exact dec10_ten hm2
  have lc : tc.size ≤ 10 := by rw [← htc, btx_size]; exact dec10_ten hc2
  have ld : td.size ≤ 10 := by rw [← htd, btx_size]; exact dec10_ten hd2
  obtain ⟨V2, hV2⟩ : ∃ V, m * 16777216 + c = V := ⟨_, rfl⟩
  obtain ⟨V3, hV3⟩ : ∃ V, m * 16777216 + 65536 + d = V := ⟨_, rfl⟩
  have P1 := Lib.hid (show parse7 ta.data.toList = (0, n) by rw [← hta]; exact form_one hn)
  have P2 := Lib.hid (show parse7 (tb ++ ⟨#[46]⟩ ++ tc : ByteArray).data.toList = (0, V2) by
    rw [show (tb ++ ⟨#[46]⟩ ++ tc : ByteArray).data.toList = dec10 m ++ 46 :: dec10 c by
      rw [ByteArray.data_append, Array.toList_append, ByteArray.data_append, Array.toList_append, ← htb, ← htc]; simp [btx]]
    rw [form_two hm hc1, hV2])
  have P3 := Lib.hid (show parse7 (tb ++ ⟨#[46, 48, 120, 49, 46]⟩ ++ td : ByteArray).data.toList = (0, V3) by
    rw [show (tb ++ ⟨#[46, 48, 120, 49, 46]⟩ ++ td : ByteArray).data.toList = dec10 m ++ 46 :: ([48, 120, 49] ++ 46 :: dec10 d) by
      rw [ByteArray.data_append, Array.toList_append, ByteArray.data_append, Array.toList_append, ← htb, ← htd]; simp [btx]]
    rw [form_three hm hd1, hV3])
  have Z2 := Lib.hid (show (tb ++ ⟨#[46]⟩ ++ tc : ByteArray).size ≤ 200 by rw [ByteArray.size_append, ByteArray.size_append]; show tb.size + 1 + tc.size ≤ 200; omega)
  have Z3 := Lib.hid (show (tb ++ ⟨#[46, 48, 120, 49, 46]⟩ ++ td : ByteArray).size ≤ 200 by rw [ByteArray.size_append, ByteArray.size_append]; show tb.size + 5 + td.size ≤ 200; omega)
  have e2 : (m : Int) * 16777216 + (c : Int) = (V2 : Int) := by omega
  have e3 : (m : Int) * 16777216 + 65536 + (d : Int) = (V3 : Int) := by omega
  have v2 : V2 < 4294967296 := by omega
  have v3 : V3 < 4294967296 := by omega
  clear hta htb htc htd hc hd hV2 hV3
  go_enter Tryd.func7, Tryd.ntmps7
  go_wp2_with (first
    | (go_at_call 8; refine (awake7 HC.out).mono ?_; rintro e w1 ⟨rfl, hb⟩; have HB := Lib.hid hb; clear hb)
    | (go_at_call 17; (with_reducible refine (num10_is HTa.out hn _).mono ?_); rintro e w2 ⟨rfl, hb⟩; have HB := Lib.hid (bnext7 HB.out hb); clear hb)
    | (go_at_call 17; (with_reducible refine (num10_is HTb.out hm2 _).mono ?_); rintro e w3 ⟨rfl, hb⟩; have HB := Lib.hid (bnext7 HB.out hb); clear hb)
    | (go_at_call 17; (with_reducible refine (num10_is HTc.out hc2 _).mono ?_); rintro e w4 ⟨rfl, hb⟩; have HB := Lib.hid (bnext7 HB.out hb); clear hb)
    | (go_at_call 17; (with_reducible refine (num10_is HTd.out hd2 _).mono ?_); rintro e w5 ⟨rfl, hb⟩; have HB := Lib.hid (bnext7 HB.out hb); clear hb)
    | (go_at_call 9; (with_reducible refine (parse_ok HC.out P1.out (by omega) _ HB.out).mono ?_); rintro e w6 ⟨rfl, hb⟩; have HB := Lib.hid (bnext7 HB.out hb); clear hb)
    | (go_at_call 9; (with_reducible refine (parse_ok HC.out P2.out Z2.out _ HB.out).mono ?_); rintro e w7 ⟨rfl, hb⟩; have HB := Lib.hid (bnext7 HB.out hb); clear hb)
    | (go_at_call 9; (with_reducible refine (parse_ok HC.out P3.out Z3.out _ HB.out).mono ?_); rintro e w8 ⟨rfl, hb⟩; have HB := Lib.hid (bnext7 HB.out hb); clear hb))
  go_ret
  exact ⟨rfl, HB.out⟩
end Go.Proofs.YtbdedjokahopmaaDoor

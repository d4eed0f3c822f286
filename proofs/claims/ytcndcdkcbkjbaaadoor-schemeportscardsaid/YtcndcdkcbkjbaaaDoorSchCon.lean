/-
  What the program's Special, Default, May, Cut and Port of layer 10 are held against: their contracts, as hypotheses; the example (written by mkschcon.py).
-/
import Derived.Test.YtcndcdkcbkjbaaaDoorSchCut
import Derived.Test.YtcndcdkcbkjbaaaDoorSchPort
import Derived.Test.YtcndcdkcbkjbaaaDoorFIs
namespace Go.Proofs.YtcndcdkcbkjbaaaDoor
open Go.RowKit

def Yes10 (w : World) (e : Ending) (w' : World) : Prop := e = .returned (.bool true) ∧ Below w.heap.size w w'
theorem bn10 {w a b : World} (h : Below w.heap.size w a) (k : Below a.heap.size a b) : Below w.heap.size w b := h.trans (k.mono h.size)
def BoolC10 (b : Bool) (w : World) (e : Ending) (w' : World) : Prop := e = .returned (.bool b) ∧ Below w.heap.size w w'
def IntC10 (n : Int) (w : World) (e : Ending) (w' : World) : Prop := e = .returned (.int .i64 n) ∧ Below w.heap.size w w'
/-- A port and no error; or 0 and an error of ports. -/
def PortC10 (o : Int × Nat) (w : World) (e : Ending) (w' : World) : Prop := match o.2 with
  | 0 => e = .returned (.tuple #[.int .i64 o.1, .nilIface]) ∧ Below w.heap.size w w'
  | _ + 1 => ∃ cs u x, e = .returned (.tuple #[.int .i64 0, .iface u x]) ∧ Chain w' cs (some 4) (.iface u x) ∧ Below w.heap.size w w'
/-- The program's functions do as the document says, in every world behind w0. -/
structure SchC (w0 : World) : Prop where
  special : ∀ (s : ByteArray) (w : World), Below w0.heap.size w0 w → s.size ≤ 200 → Calls Tryd.prog 9 #[.string s] w (BoolC10 (spec10 s.data.toList) w)
  default : ∀ (s : ByteArray) (w : World), Below w0.heap.size w0 w → s.size ≤ 200 → Calls Tryd.prog 11 #[.string s] w (IntC10 (def10 s.data.toList) w)
  may : ∀ (s : ByteArray) (w : World), Below w0.heap.size w0 w → s.size ≤ 200 → Calls Tryd.prog 13 #[.string s] w (BoolC10 (may10 s.data.toList) w)
  cut : ∀ (s : ByteArray) (w : World), Below w0.heap.size w0 w → s.size ≤ 200 → Calls Tryd.prog 15 #[.string s] w (Cut10 (cut10 s.data.toList) s w)
  port : ∀ (s t : ByteArray) (w : World), Below w0.heap.size w0 w → s.size ≤ 200 → t.size ≤ 200 → Calls Tryd.prog 17 #[.string s, .string t] w (PortC10 (port10 s.data.toList t.data.toList) w)
theorem SchC.behind {w0 w : World} (C : SchC w0) (h : Below w0.heap.size w0 w) : SchC w :=
  ⟨fun s x hx => C.special s x (bn10 h hx), fun s x hx => C.default s x (bn10 h hx), fun s x hx => C.may s x (bn10 h hx), fun s x hx => C.cut s x (bn10 h hx), fun s t x hx => C.port s t x (bn10 h hx)⟩

theorem cspecial_is {w0 : World} (C : SchC w0) {s : ByteArray} {b : Bool} (h : spec10 s.data.toList = b) (hs : s.size ≤ 200) (w : World) (hw : Below w0.heap.size w0 w) :
    Calls Tryd.prog 9 #[.string s] w fun e w' => e = .returned (.bool b) ∧ Below w.heap.size w w' := h ▸ C.special s w hw hs

theorem cdefault_is {w0 : World} (C : SchC w0) {s : ByteArray} {b : Int} (h : def10 s.data.toList = b) (hs : s.size ≤ 200) (w : World) (hw : Below w0.heap.size w0 w) :
    Calls Tryd.prog 11 #[.string s] w fun e w' => e = .returned (.int .i64 b) ∧ Below w.heap.size w w' := h ▸ C.default s w hw hs

theorem cmay_is {w0 : World} (C : SchC w0) {s : ByteArray} {b : Bool} (h : may10 s.data.toList = b) (hs : s.size ≤ 200) (w : World) (hw : Below w0.heap.size w0 w) :
    Calls Tryd.prog 13 #[.string s] w fun e w' => e = .returned (.bool b) ∧ Below w.heap.size w w' := h ▸ C.may s w hw hs

theorem ccut_no {w0 : World} (C : SchC w0) {s : ByteArray} (h : cut10 s.data.toList = none) (hs : s.size ≤ 200) (w : World) (hw : Below w0.heap.size w0 w) :
    Calls Tryd.prog 15 #[.string s] w fun e w' => e = .returned (.tuple #[.string ⟨#[]⟩, .string s, .bool false]) ∧ Below w.heap.size w w' := by
  have := C.cut s w hw hs
  rw [h] at this
  exact this
theorem ccut_yes {w0 : World} (C : SchC w0) {s a b : ByteArray} (h : cut10 s.data.toList = some (a.data.toList, b.data.toList)) (hs : s.size ≤ 200) (w : World) (hw : Below w0.heap.size w0 w) :
    Calls Tryd.prog 15 #[.string s] w fun e w' => e = .returned (.tuple #[.string a, .string b, .bool true]) ∧ Below w.heap.size w w' := by
  have := C.cut s w hw hs
  rw [h] at this
  exact this
theorem cport_ok {w0 : World} (C : SchC w0) {s t : ByteArray} {n : Int} (h : port10 s.data.toList t.data.toList = (n, 0)) (hs : s.size ≤ 200) (ht : t.size ≤ 200) (w : World) (hw : Below w0.heap.size w0 w) :
    Calls Tryd.prog 17 #[.string s, .string t] w fun e w' => e = .returned (.tuple #[.int .i64 n, .nilIface]) ∧ Below w.heap.size w w' := by
  have := C.port s t w hw hs ht
  rw [h] at this
  exact this
theorem cport_no {w0 : World} (C : SchC w0) {s t : ByteArray} (h : port10 s.data.toList t.data.toList = (0, 4)) (hs : s.size ≤ 200) (ht : t.size ≤ 200) (w : World) (hw : Below w0.heap.size w0 w) :
    Calls Tryd.prog 17 #[.string s, .string t] w fun e w' => ∃ cs u x, e = .returned (.tuple #[.int .i64 0, .iface u x]) ∧ Chain w' cs (some 4) (.iface u x) ∧ Below w.heap.size w w' := by
  have := C.port s t w hw hs ht
  rw [h] at this
  exact this

theorem aw_cut {w0 : World} (C : SchC w0) (w : World) (hw : Below w0.heap.size w0 w) : Calls Tryd.prog 15 #[.string ⟨#[72, 84, 84, 80, 58, 120, 58, 121]⟩] w fun e w' => e = .returned (.tuple #[.string ⟨#[104, 116, 116, 112]⟩, .string ⟨#[120, 58, 121]⟩, .bool true]) ∧ Below w.heap.size w w' := ccut_yes C (a := ⟨#[104, 116, 116, 112]⟩) (b := ⟨#[120, 58, 121]⟩) (by decide +kernel) (by decide) w hw

theorem aw_p1 {w0 : World} (C : SchC w0) (w : World) (hw : Below w0.heap.size w0 w) : Calls Tryd.prog 17 #[.string ⟨#[48, 52, 52, 51]⟩, .string ⟨#[104, 116, 116, 112, 115]⟩] w fun e w' => e = .returned (.tuple #[.int .i64 (-1), .nilIface]) ∧ Below w.heap.size w w' := cport_ok C (by decide +kernel) (by decide) (by decide) w hw
theorem aw_p2 {w0 : World} (C : SchC w0) (w : World) (hw : Below w0.heap.size w0 w) : Calls Tryd.prog 17 #[.string ⟨#[54, 53, 53, 51, 54]⟩, .string ⟨#[102, 116, 112]⟩] w fun e w' => ∃ cs u x, e = .returned (.tuple #[.int .i64 0, .iface u x]) ∧ Chain w' cs (some 4) (.iface u x) ∧ Below w.heap.size w w' := cport_no C (by decide +kernel) (by decide) (by decide) w hw

theorem aw_s {w0 : World} (C : SchC w0) (w : World) (hw : Below w0.heap.size w0 w) : Calls Tryd.prog 9 #[.string ⟨#[102, 105, 108, 101]⟩] w fun e w' => e = .returned (.bool true) ∧ Below w.heap.size w w' := cspecial_is C (by decide +kernel) (by decide) w hw

theorem aw_d {w0 : World} (C : SchC w0) (w : World) (hw : Below w0.heap.size w0 w) : Calls Tryd.prog 11 #[.string ⟨#[102, 105, 108, 101]⟩] w fun e w' => e = .returned (.int .i64 (-1)) ∧ Below w.heap.size w w' := cdefault_is C (by decide +kernel) (by decide) w hw

theorem aw_m {w0 : World} (C : SchC w0) (w : World) (hw : Below w0.heap.size w0 w) : Calls Tryd.prog 13 #[.string ⟨#[97, 43, 49]⟩] w fun e w' => e = .returned (.bool true) ∧ Below w.heap.size w w' := cmay_is C (by decide +kernel) (by decide) w hw

theorem aw_n {w0 : World} (C : SchC w0) (w : World) (hw : Below w0.heap.size w0 w) : Calls Tryd.prog 13 #[.string ⟨#[49, 97]⟩] w fun e w' => e = .returned (.bool false) ∧ Below w.heap.size w w' := cmay_is C (by decide +kernel) (by decide) w hw

set_option maxHeartbeats 2000000 in
set_option maxRecDepth 100000 in
theorem awake10 {w : World} (C : SchC w) : Calls Tryd.prog 8 #[] w (Yes10 w) := by
  have HC := Lib.hid C
  have HB := Lib.hid (Below.refl w.heap.size w)
  clear C
  go_enter Tryd.func8, Tryd.ntmps8
  go_wp2_with (first
    | (go_at_call 15; (with_reducible refine (aw_cut HC.out _ HB.out).mono ?_); rintro e w1 ⟨rfl, hb⟩; have HB := Lib.hid (bn10 HB.out hb); clear hb)
    | (go_at_call 17; (with_reducible refine (aw_p1 HC.out _ HB.out).mono ?_); rintro e w2 ⟨rfl, hb⟩; have HB := Lib.hid (bn10 HB.out hb); clear hb)
    | (go_at_call 17; (with_reducible refine (aw_p2 HC.out _ HB.out).mono ?_); rintro e w3 ⟨cs, u, x, rfl, hch, hb⟩; have HCh := Lib.hid hch; have HB := Lib.hid (bn10 HB.out hb); clear hb hch)
    | (go_at_call 22; (with_reducible refine (is_any _ 4 4 u x _ HCh.out).mono ?_); rintro e w' ⟨rfl, rfl⟩)
    | (go_at_call 9; (with_reducible refine (aw_s HC.out _ HB.out).mono ?_); rintro e w4 ⟨rfl, hb⟩; have HCh := Lib.hid (HCh.out.below hb); have HB := Lib.hid (bn10 HB.out hb); clear hb)
    | (go_at_call 11; (with_reducible refine (aw_d HC.out _ HB.out).mono ?_); rintro e w5 ⟨rfl, hb⟩; have HCh := Lib.hid (HCh.out.below hb); have HB := Lib.hid (bn10 HB.out hb); clear hb)
    | (go_at_call 13; (with_reducible refine (aw_m HC.out _ HB.out).mono ?_); rintro e w6 ⟨rfl, hb⟩; have HCh := Lib.hid (HCh.out.below hb); have HB := Lib.hid (bn10 HB.out hb); clear hb)
    | (go_at_call 13; (with_reducible refine (aw_n HC.out _ HB.out).mono ?_); rintro e w7 ⟨rfl, hb⟩; have HCh := Lib.hid (HCh.out.below hb); have HB := Lib.hid (bn10 HB.out hb); clear hb))
  go_ret
  exact ⟨rfl, HB.out⟩
end Go.Proofs.YtcndcdkcbkjbaaaDoor

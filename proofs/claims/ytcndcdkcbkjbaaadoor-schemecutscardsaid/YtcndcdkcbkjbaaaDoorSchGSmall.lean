/-
  The program's isLetter, isFigure, Default and Special of layer 10, by their contracts; a box of the call's own (written by mkschg.py).
-/
import Derived.Test.YtcndcdkcbkjbaaaDoorSchCut
import Derived.Test.YtcndcdkcbkjbaaaDoorSchPort
namespace Go.Proofs.YtcndcdkcbkjbaaaDoor
open Go.RowKit

/-- A box in block g, made since w0. -/
structure Box10 (w0 : World) (g : Nat) (v : Value) (t : TypeId) (w : World) : Prop where
  old : Below w0.heap.size w0 w
  ge : w0.heap.size ≤ g
  box : w.heap[g]? = some (.cells #[v] t (0, 0))
theorem Box10.lt {w0 w : World} {g : Nat} {v : Value} {t : TypeId} (h : Box10 w0 g v t w) : g < w.heap.size := (Array.getElem?_eq_some_iff.1 h.box).1
theorem Box10.cell {w0 w : World} {g : Nat} {v : Value} {t : TypeId} (h : Box10 w0 g v t w) : w.cell? ⟨g, 0, none⟩ = some v ∧ w.frozen? ⟨g, 0, none⟩ = false := by
  have h2 := h.box
  simp [World.cell?, World.frozen?, h2]
theorem Box10.put {w0 w : World} {g : Nat} {v : Value} {t : TypeId} (h : Box10 w0 g v t w) (v' : Value) : Box10 w0 g v' t (w.setCell ⟨g, 0, none⟩ v') := by
  refine ⟨h.old.setCell (by simpa using h.ge) _, h.ge, ?_⟩
  have := heap_setCell_same w g 0 #[v] t v' h.box
  simpa using this
theorem Box10.put2 {w0 w : World} {g : Nat} {v x v' : Value} {t : TypeId} (h : Box10 w0 g v t w) (e : x = v') : Box10 w0 g v' t (w.setCell ⟨g, 0, none⟩ x) := e ▸ h.put x
theorem Box10.new (w : World) (v : Value) (t : TypeId) : Box10 w w.heap.size v t (w.alloc (.cells #[v] t)) := ⟨(Below.refl _ w).alloc (Nat.le_refl _) _, Nat.le_refl _, heap_alloc_new w _⟩

theorem isLetter_any (c : UInt8) (w : World) : Calls Tryd.prog 24 #[.int .u8 (c.toNat : Int)] w (Bool10 (let10 c) w) := by
  have hu := c.toNat_lt
  have HM : Hid (let10 c = (decide (97 ≤ c.toNat ∧ c.toNat ≤ 122) || decide (65 ≤ c.toNat ∧ c.toNat ≤ 90))) := rfl
  by_cases h1 : 97 ≤ c.toNat <;> by_cases h2 : c.toNat ≤ 122 <;> by_cases h3 : 65 ≤ c.toNat <;> by_cases h4 : c.toNat ≤ 90
  all_goals first
    | (exfalso; omega)
    | (go_enter Tryd.func24, Tryd.ntmps24
       go_wp2
       all_goals
         go_ret
         refine ⟨ret_bool ?_, rfl⟩
         rw [HM.out]
         try simp [h1, h2, h3, h4]
         try omega)
theorem isLetter_is {c : UInt8} {b : Bool} (h : let10 c = b) (w : World) : Calls Tryd.prog 24 #[.int .u8 (c.toNat : Int)] w fun e w' => e = .returned (.bool b) ∧ w = w' := h ▸ isLetter_any c w
theorem isFigure_any (c : UInt8) (w : World) : Calls Tryd.prog 25 #[.int .u8 (c.toNat : Int)] w (Bool10 (fig10 c) w) := by
  have hu := c.toNat_lt
  have HM : Hid (fig10 c = decide (48 ≤ c.toNat ∧ c.toNat ≤ 57)) := rfl
  by_cases h1 : 48 ≤ c.toNat <;> by_cases h2 : c.toNat ≤ 57
  all_goals first
    | (exfalso; omega)
    | (go_enter Tryd.func25, Tryd.ntmps25
       go_wp2
       all_goals
         go_ret
         refine ⟨ret_bool ?_, rfl⟩
         rw [HM.out]
         try simp [h1, h2]
         try omega)
theorem isFigure_is {c : UInt8} {b : Bool} (h : fig10 c = b) (w : World) : Calls Tryd.prog 25 #[.int .u8 (c.toNat : Int)] w fun e w' => e = .returned (.bool b) ∧ w = w' := h ▸ isFigure_any c w
theorem default_ftp (w : World) : Calls Tryd.prog 11 #[.string ⟨#[102, 116, 112]⟩] w fun e w' => e = .returned (.int .i64 (21)) ∧ w = w' := by
  go_enter Tryd.func11, Tryd.ntmps11
  go_wp2
  go_ret
  exact ⟨rfl, rfl⟩
theorem default_file (w : World) : Calls Tryd.prog 11 #[.string ⟨#[102, 105, 108, 101]⟩] w fun e w' => e = .returned (.int .i64 (-1)) ∧ w = w' := by
  go_enter Tryd.func11, Tryd.ntmps11
  go_wp2
  go_ret
  exact ⟨rfl, rfl⟩
theorem default_http (w : World) : Calls Tryd.prog 11 #[.string ⟨#[104, 116, 116, 112]⟩] w fun e w' => e = .returned (.int .i64 (80)) ∧ w = w' := by
  go_enter Tryd.func11, Tryd.ntmps11
  go_wp2
  go_ret
  exact ⟨rfl, rfl⟩
theorem default_https (w : World) : Calls Tryd.prog 11 #[.string ⟨#[104, 116, 116, 112, 115]⟩] w fun e w' => e = .returned (.int .i64 (443)) ∧ w = w' := by
  go_enter Tryd.func11, Tryd.ntmps11
  go_wp2
  go_ret
  exact ⟨rfl, rfl⟩
theorem default_ws (w : World) : Calls Tryd.prog 11 #[.string ⟨#[119, 115]⟩] w fun e w' => e = .returned (.int .i64 (80)) ∧ w = w' := by
  go_enter Tryd.func11, Tryd.ntmps11
  go_wp2
  go_ret
  exact ⟨rfl, rfl⟩
theorem default_wss (w : World) : Calls Tryd.prog 11 #[.string ⟨#[119, 115, 115]⟩] w fun e w' => e = .returned (.int .i64 (443)) ∧ w = w' := by
  go_enter Tryd.func11, Tryd.ntmps11
  go_wp2
  go_ret
  exact ⟨rfl, rfl⟩
theorem default_no (s : ByteArray) (h : None10 s) (w : World) : Calls Tryd.prog 11 #[.string s] w fun e w' => e = .returned (.int .i64 (-1)) ∧ w = w' := by
  obtain ⟨h1, h2, h3, h4, h5, h6⟩ := h
  go_enter Tryd.func11, Tryd.ntmps11
  go_wp2
  go_ret
  exact ⟨rfl, rfl⟩
theorem default_any (s : ByteArray) (w : World) : Calls Tryd.prog 11 #[.string s] w fun e w' => e = .returned (.int .i64 (def10 s.data.toList)) ∧ w = w' := by
  rcases six10 s with rfl | rfl | rfl | rfl | rfl | rfl | h
  · exact default_ftp w
  · exact default_file w
  · exact default_http w
  · exact default_https w
  · exact default_ws w
  · exact default_wss w
  · have h' := default_no s h w
    obtain ⟨g1, g2, g3, g4, g5, g6⟩ := h.list
    unfold def10
    rw [if_neg g1, if_neg (fun e => e.elim g3 g5), if_neg (fun e => e.elim g4 g6)]
    exact h'
theorem default_is {s : ByteArray} {n : Int} (h : def10 s.data.toList = n) (w : World) : Calls Tryd.prog 11 #[.string s] w fun e w' => e = .returned (.int .i64 n) ∧ w = w' := h ▸ default_any s w
theorem special_ftp (w : World) : Calls Tryd.prog 9 #[.string ⟨#[102, 116, 112]⟩] w fun e w' => e = .returned (.bool true) ∧ w = w' := by
  go_enter Tryd.func9, Tryd.ntmps9
  go_wp2_with (go_at_call 11; (with_reducible refine (default_ftp _).mono ?_); rintro e w' ⟨rfl, rfl⟩)
  go_ret
  exact ⟨rfl, rfl⟩
theorem special_file (w : World) : Calls Tryd.prog 9 #[.string ⟨#[102, 105, 108, 101]⟩] w fun e w' => e = .returned (.bool true) ∧ w = w' := by
  go_enter Tryd.func9, Tryd.ntmps9
  go_wp2
  go_ret
  exact ⟨rfl, rfl⟩
theorem special_http (w : World) : Calls Tryd.prog 9 #[.string ⟨#[104, 116, 116, 112]⟩] w fun e w' => e = .returned (.bool true) ∧ w = w' := by
  go_enter Tryd.func9, Tryd.ntmps9
  go_wp2_with (go_at_call 11; (with_reducible refine (default_http _).mono ?_); rintro e w' ⟨rfl, rfl⟩)
  go_ret
  exact ⟨rfl, rfl⟩
theorem special_https (w : World) : Calls Tryd.prog 9 #[.string ⟨#[104, 116, 116, 112, 115]⟩] w fun e w' => e = .returned (.bool true) ∧ w = w' := by
  go_enter Tryd.func9, Tryd.ntmps9
  go_wp2_with (go_at_call 11; (with_reducible refine (default_https _).mono ?_); rintro e w' ⟨rfl, rfl⟩)
  go_ret
  exact ⟨rfl, rfl⟩
theorem special_ws (w : World) : Calls Tryd.prog 9 #[.string ⟨#[119, 115]⟩] w fun e w' => e = .returned (.bool true) ∧ w = w' := by
  go_enter Tryd.func9, Tryd.ntmps9
  go_wp2_with (go_at_call 11; (with_reducible refine (default_ws _).mono ?_); rintro e w' ⟨rfl, rfl⟩)
  go_ret
  exact ⟨rfl, rfl⟩
theorem special_wss (w : World) : Calls Tryd.prog 9 #[.string ⟨#[119, 115, 115]⟩] w fun e w' => e = .returned (.bool true) ∧ w = w' := by
  go_enter Tryd.func9, Tryd.ntmps9
  go_wp2_with (go_at_call 11; (with_reducible refine (default_wss _).mono ?_); rintro e w' ⟨rfl, rfl⟩)
  go_ret
  exact ⟨rfl, rfl⟩
theorem special_no (s : ByteArray) (h : None10 s) (w : World) : Calls Tryd.prog 9 #[.string s] w fun e w' => e = .returned (.bool false) ∧ w = w' := by
  have HC := Lib.hid (default_no s h)
  obtain ⟨h1, h2, h3, h4, h5, h6⟩ := h
  go_enter Tryd.func9, Tryd.ntmps9
  go_wp2_with (go_at_call 11; (with_reducible refine (HC.out _).mono ?_); rintro e w' ⟨rfl, rfl⟩)
  go_ret
  exact ⟨rfl, rfl⟩
theorem special_any (s : ByteArray) (w : World) : Calls Tryd.prog 9 #[.string s] w fun e w' => e = .returned (.bool (spec10 s.data.toList)) ∧ w = w' := by
  rcases six10 s with rfl | rfl | rfl | rfl | rfl | rfl | h
  · exact special_ftp w
  · exact special_file w
  · exact special_http w
  · exact special_https w
  · exact special_ws w
  · exact special_wss w
  · have h' := special_no s h w
    obtain ⟨g1, g2, g3, g4, g5, g6⟩ := h.list
    have : spec10 s.data.toList = false := by
      unfold spec10
      rw [decide_eq_false_iff_not]
      exact fun e => e.elim g1 fun e => e.elim g2 fun e => e.elim g3 fun e => e.elim g4 fun e => e.elim g5 g6
    rw [this]
    exact h'
end Go.Proofs.YtcndcdkcbkjbaaaDoor

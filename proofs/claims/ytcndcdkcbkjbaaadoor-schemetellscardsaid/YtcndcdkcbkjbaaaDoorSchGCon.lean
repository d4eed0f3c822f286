/-
  The program's Cut of layer 10; all of package scheme does as the document says (written by mkschg.py).
-/
import Derived.Test.YtcndcdkcbkjbaaaDoorSchGMay
import Derived.Test.YtcndcdkcbkjbaaaDoorSchGPort
import Derived.Test.YtcndcdkcbkjbaaaDoorSchGShelf
namespace Go.Proofs.YtcndcdkcbkjbaaaDoor
open Go.RowKit Go.Shelf

/-- A length of the library's. -/
def Mx10 (w : World) : Prop := ∃ m, w.cell? ⟨1, 0, none⟩ = some (.int .i64 m)
theorem Mx10.below {w w' : World} (h : Mx10 w) (hb : Below w.heap.size w w') : Mx10 w' := by
  obtain ⟨m, h⟩ := h
  refine ⟨m, (hb.cell ?_).trans h⟩
  by_cases hlt : 1 < w.heap.size
  · exact hlt
  · rw [World.cell?, Array.getElem?_eq_none (by simpa using hlt)] at h
    cases h
theorem scut_any (s : ByteArray) (a b : List UInt8) (t : Bool) (h : Lib.cut s.data.toList [58] = (a, b, t)) (w : World) (hm : Mx10 w) (hs : s.size ≤ 100000) :
    Calls Tryd.prog 28 #[.string s, .string ⟨#[58]⟩] w fun e w' => e = .returned (.tuple #[.string (txt10 a), .string (txt10 b), .bool t]) ∧ Below w.heap.size w w' := by
  obtain ⟨m, hm⟩ := hm
  refine (Any.strings_Cut lays145s s ⟨#[58]⟩ m w (by omega) hm).mono ?_
  rintro e w' ⟨rfl, n, rfl⟩
  rw [show (ByteArray.mk #[58]).data.toList = [58] from rfl, h]
  exact ⟨rfl, ⟨rfl, rfl, rfl, Nat.le_refl _, fun _ _ => rfl⟩⟩
theorem low10_lib : ∀ n : Fin 256, Lib.lowerB (UInt8.ofNat n.val) = low10 (UInt8.ofNat n.val) := by decide +kernel
theorem small10_lib (l : List UInt8) : Lib.toLowerA l = small10 l := by
  unfold Lib.toLowerA small10
  refine List.map_congr_left fun c _ => ?_
  have := low10_lib ⟨c.toNat, c.toNat_lt⟩
  simpa using this
theorem mor10_low {c : UInt8} (h : mor10 c = true) : c.toNat < 128 := by
  unfold mor10 let10 fig10 at h
  simp only [Bool.or_eq_true, decide_eq_true_eq] at h
  omega
theorem slow_any (s : ByteArray) (w : World) (hs : s.size ≤ 100000) (hm : may10 s.data.toList = true) :
    Calls Tryd.prog 29 #[.string s] w fun e w' => e = .returned (.string (txt10 (small10 s.data.toList))) ∧ Below w.heap.size w w' := by
  refine (Any.strings_ToLower_ascii lays159s lowExtra s w (by omega) (fun j b hb => mor10_low (may10_mor hm b (List.mem_of_getElem? hb)))).mono ?_
  rintro e w' ⟨rfl, hb⟩
  rw [small10_lib]
  exact ⟨rfl, hb⟩
theorem ib10 (l : List UInt8) (c : UInt8) : (Lib.indexByte l c = -1 ∧ ∀ b ∈ l, b ≠ c) ∨ ∃ i : Nat, Lib.indexByte l c = i ∧ i < l.length ∧ (∀ b ∈ l.take i, b ≠ c) ∧ l.drop i = c :: l.drop (i + 1) := by
  induction l with
  | nil => exact .inl ⟨rfl, by simp⟩
  | cons b l ih =>
    by_cases hb : b = c
    · subst hb
      refine .inr ⟨0, by simp [Lib.indexByte], by simp, by simp, by simp⟩
    · have e : Lib.indexByte (b :: l) c = if Lib.indexByte l c == -1 then -1 else Lib.indexByte l c + 1 := by
        rw [Lib.indexByte, if_neg (by simpa using hb)]
      rcases ih with ⟨h1, h2⟩ | ⟨i, h1, h2, h3, h4⟩
      · refine .inl ⟨by rw [e, h1]; rfl, fun x hx => ?_⟩
        rcases List.mem_cons.1 hx with rfl | hx
        · exact hb
        · exact h2 x hx
      · refine .inr ⟨i + 1, by rw [e, h1, if_neg (by simp)]; rfl, by simp; omega, fun x hx => ?_, by simpa using h4⟩
        rw [List.take_succ_cons] at hx
        rcases List.mem_cons.1 hx with rfl | hx
        · exact hb
        · exact h3 x hx
/-- A text up to its first colon. -/
theorem colon10 (t : List UInt8) : (Lib.cut t [58] = (t, [], false) ∧ ∀ b ∈ t, b ≠ 58) ∨ ∃ i : Nat, ∃ h : i < t.length, Lib.cut t [58] = (t.take i, t.drop (i + 1), true) ∧ t[i] = 58 ∧ ∀ b ∈ t.take i, b ≠ 58 := by
  unfold Lib.cut
  rw [Lib.index_one]
  rcases ib10 t 58 with ⟨h1, h2⟩ | ⟨i, h1, h2, h3, h4⟩
  · left
    rw [h1, if_neg (by decide)]
    exact ⟨rfl, h2⟩
  · right
    rw [h1, if_pos (by omega)]
    refine ⟨i, h2, rfl, ?_, h3⟩
    rw [List.drop_eq_getElem_cons h2] at h4
    exact (List.cons.inj h4).1

set_option maxHeartbeats 2000000 in
set_option maxRecDepth 100000 in
theorem sCut_any (s : ByteArray) (w : World) (hmx : Mx10 w) (hs : s.size ≤ 100000) : Calls Tryd.prog 15 #[.string s] w (Cut10 (cut10 s.data.toList) s w) := by
  obtain ⟨o, ho⟩ : ∃ o, cut10 s.data.toList = o := ⟨_, rfl⟩
  rw [ho]
  rcases colon10 s.data.toList with ⟨hc, hp⟩ | ⟨i, hi, hc, hx, hp⟩
  · obtain rfl : o = none := ho.symm.trans (cut10_none hp)
    have HC := Lib.hid (scut_any s _ _ _ hc w hmx hs)
    rw [txt10_of] at HC
    clear ho hc hp hmx
    go_enter Tryd.func15, Tryd.ntmps15
    go_wp2_with (go_at_call 28; refine HC.out.mono ?_; rintro e w1 ⟨rfl, hb⟩; have HB := Lib.hid hb; clear hb)
    refine bodyPost_ret (v := .tuple #[.string ⟨#[]⟩, .string s, .bool false]) (by simp [results, Tryd.results15, go_sem]) rfl ?_
    exact ⟨rfl, HB.out⟩
  · obtain ⟨p, hpp⟩ : ∃ p : ByteArray, p.data.toList = s.data.toList.take i := ⟨txt10 (s.data.toList.take i), rfl⟩
    have hps : p.size ≤ 100000 := by
      have h1 := len10 p
      rw [hpp, List.length_take, len10] at h1
      omega
    have hC := scut_any s _ _ _ hc w hmx hs
    rw [← hpp, txt10_of] at hC
    have HC := Lib.hid hC
    clear hC
    cases hm : may10 p.data.toList with
    | false =>
      obtain rfl : o = none := ho.symm.trans (cut10_no hi hx hp (by rw [← hpp]; exact hm))
      have HM := Lib.hid (fun w => smay_is hm hps w)
      clear ho hc hp hmx hx hm hpp
      go_enter Tryd.func15, Tryd.ntmps15
      go_wp2_with (first
        | (go_at_call 28; refine HC.out.mono ?_; rintro e w1 ⟨rfl, hb⟩; have HB := Lib.hid hb; clear hb)
        | (go_at_call 13; (with_reducible refine (HM.out _).mono ?_); rintro e w2 ⟨rfl, hb⟩; have HB := Lib.hid (bn10 HB.out hb); clear hb))
      refine bodyPost_ret (v := .tuple #[.string ⟨#[]⟩, .string s, .bool false]) (by simp [results, Tryd.results15, go_sem]) rfl ?_
      exact ⟨rfl, HB.out⟩
    | true =>
      have e1 := ho.symm.trans (cut10_yes hi hx hp (by rw [← hpp]; exact hm))
      rw [← hpp] at e1
      obtain rfl := e1
      have HM := Lib.hid (fun w => smay_is hm hps w)
      have HL := Lib.hid (fun w => slow_any p w hps hm)
      clear ho hc hp hmx hx hm hpp
      go_enter Tryd.func15, Tryd.ntmps15
      go_wp2_with (first
        | (go_at_call 28; refine HC.out.mono ?_; rintro e w1 ⟨rfl, hb⟩; have HB := Lib.hid hb; clear hb)
        | (go_at_call 13; (with_reducible refine (HM.out _).mono ?_); rintro e w2 ⟨rfl, hb⟩; have HB := Lib.hid (bn10 HB.out hb); clear hb)
        | (go_at_call 29; (with_reducible refine (HL.out _).mono ?_); rintro e w3 ⟨rfl, hb⟩; have HB := Lib.hid (bn10 HB.out hb); clear hb))
      refine bodyPost_ret (v := .tuple #[.string (txt10 (small10 p.data.toList)), .string (txt10 (s.data.toList.drop (i + 1))), .bool true]) (by simp [results, Tryd.results15, go_sem]) rfl ?_
      exact ⟨rfl, HB.out⟩

/-- All of package scheme. -/
theorem schC (w0 : World) (hm : Mx10 w0) : SchC w0 where
  special s w _ _ := (special_any s w).mono (by rintro e w' ⟨rfl, rfl⟩; exact ⟨rfl, Below.refl _ _⟩)
  default s w _ _ := (default_any s w).mono (by rintro e w' ⟨rfl, rfl⟩; exact ⟨rfl, Below.refl _ _⟩)
  may s w _ hs := (smay_any s w (by omega)).mono (by rintro e w' ⟨rfl, hb⟩; exact ⟨rfl, hb⟩)
  cut s w hb hs := sCut_any s w (hm.below hb) (by omega)
  port s t w _ hs _ := sport_any s t w (by omega)
end Go.Proofs.YtcndcdkcbkjbaaaDoor

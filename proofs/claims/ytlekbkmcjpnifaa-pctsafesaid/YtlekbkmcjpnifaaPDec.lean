/-
  pct.Decode and what it calls, by their contracts.
-/
import Derived.Test.YtlekbkmcjpnifaaPBld
import Derived.Test.YtlekbkmcjpnifaaPMath
namespace Go.Proofs.Ytlekbkmcjpnifaa
open Go.RowKit

/-- What figureValue tells. -/
def fv (c : Int) : Int × Bool := if 0 ≤ val c then (val c, true) else (0, false)
theorem figureValue_any (c : Int) (w : World) (h0 : 0 ≤ c) (h1 : c ≤ 255) :
    Calls Try.prog 27 #[.int .u8 c] w fun e w' => e = .returned (.tuple #[.int .u8 (fv c).1, .bool (fv c).2]) ∧ w = w' := by
  have k : ∀ (a : Int) (b : Bool), fv c = (a, b) → Ending.returned (.tuple #[.int .u8 a, .bool b]) = .returned (.tuple #[.int .u8 (fv c).1, .bool (fv c).2]) := by
    intro a b h; rw [h]
  have K := Lib.hid k
  clear k
  go_enter Try.func27, Try.ntmps27
  go_wp2
  all_goals
    go_ret2
    refine ⟨K.out _ _ ?_, rfl⟩
    unfold fv val
    repeat' split
    all_goals first | omega | (simp; omega) | rfl

/-- What the closure tells of the byte at a place. -/
def fvAt (s : ByteArray) (k : Nat) : Int × Bool := if h : k < s.size then fv (s[k]'h).toNat else (0, false)
theorem fvAt_small (s : ByteArray) (k : Nat) : 0 ≤ (fvAt s k).1 ∧ (fvAt s k).1 < 16 := by
  unfold fvAt
  split
  · unfold fv
    split
    · unfold val at *
      simp only
      repeat' split
      all_goals omega
    · simp
  · simp

set_option maxHeartbeats 400000 in
theorem decFig_any (s : ByteArray) (p : Addr) (k : Nat) (x : Int) (w : World) (hp : w.cell? p = some (.string s)) (hx : x = (k : Int)) :
    Calls Try.prog 26 #[.int .i64 x, .pointer (some p)] w fun e w' => e = .returned (.tuple #[.int .u8 (fvAt s k).1, .bool (fvAt s k).2]) ∧ w = w' := by
  subst hx
  by_cases hlt : k < s.size
  · have hu := (s[k]'hlt).toNat_lt
    have HE : Hid (fv (s[k]'hlt).toNat = fvAt s k) := by
      show fv (s[k]'hlt).toNat = fvAt s k
      unfold fvAt; rw [dif_pos hlt]
    go_enter Try.func26, Try.ntmps26
    go_wp2_with (go_at_call 27; refine (figureValue_any _ _ (by omega) (by omega)).mono ?_; rintro e w' ⟨rfl, rfl⟩; rw [HE.out])
    go_ret2
    exact ⟨rfl, rfl⟩
  · have HE : Hid (((0 : Int), false) = fvAt s k) := by
      show ((0 : Int), false) = fvAt s k
      unfold fvAt; rw [dif_neg hlt]
    go_enter Try.func26, Try.ntmps26
    go_wp2
    go_ret2
    exact ⟨by rw [← HE.out]; rfl, rfl⟩

theorem drop_cons (s : ByteArray) (k : Nat) (h : k < s.size) : s.data.toList.drop k = s[k]'h :: s.data.toList.drop (k + 1) := by
  rw [List.drop_eq_getElem_cons (by simpa using h)]
  rfl
theorem fv_true {c x : Int} (h : fv c = (x, true)) : 0 ≤ val c ∧ val c = x := by
  unfold fv at h
  split at h
  · rename_i hv
    exact ⟨hv, congrArg Prod.fst h⟩
  · simp at h
theorem fv_false {c x : Int} (h : fv c = (x, false)) : ¬ 0 ≤ val c := by
  unfold fv at h
  split at h
  · simp at h
  · rename_i hv; exact hv
theorem fvAt_true {s : ByteArray} {k : Nat} {x : Int} (h : fvAt s k = (x, true)) : ∃ hk : k < s.size, 0 ≤ val (s[k]'hk).toNat ∧ val (s[k]'hk).toNat = x := by
  unfold fvAt at h
  split at h
  · rename_i hk
    exact ⟨hk, fv_true h⟩
  · simp at h
theorem fvAt_false {s : ByteArray} {k : Nat} {x : Int} (h : fvAt s k = (x, false)) (hk : k < s.size) : ¬ 0 ≤ val (s[k]'hk).toNat := by
  unfold fvAt at h
  rw [dif_pos hk] at h
  exact fv_false h
theorem step_take {s : ByteArray} {k : Nat} {x y : Int} (hk : k < s.size) (h0 : s[k]'hk = 37) (h1 : fvAt s (k + 1) = (x, true)) (h2 : fvAt s (k + 2) = (y, true)) :
    step (s.data.toList.drop k) = (UInt8.ofNat (16 * x + y).toNat, 3) ∧ k + 3 ≤ s.size := by
  obtain ⟨k1, a1, b1⟩ := fvAt_true h1
  obtain ⟨k2, a2, b2⟩ := fvAt_true h2
  refine ⟨?_, by omega⟩
  rw [drop_cons s k hk, drop_cons s (k + 1) k1, drop_cons s (k + 2) k2]
  simp only [step]
  rw [if_pos ⟨h0, a1, a2⟩, b1, b2]
theorem step_leave {s : ByteArray} {k : Nat} (hk : k < s.size) (h : s[k]'hk ≠ 37 ∨ (fvAt s (k + 1)).2 = false ∨ (fvAt s (k + 2)).2 = false) :
    step (s.data.toList.drop k) = (s[k]'hk, 1) := by
  rw [drop_cons s k hk]
  by_cases k1 : k + 1 < s.size
  · rw [drop_cons s (k + 1) k1]
    by_cases k2 : k + 2 < s.size
    · rw [drop_cons s (k + 2) k2]
      simp only [step]
      rw [if_neg]
      rintro ⟨e, a1, a2⟩
      rcases h with h | h | h
      · exact h e
      · exact fvAt_false (x := (fvAt s (k + 1)).1) (by rw [← h]) k1 a1
      · exact fvAt_false (x := (fvAt s (k + 2)).1) (by rw [← h]) k2 a2
    · rw [List.drop_eq_nil_of_le (by simp; omega)]
      rfl
  · rw [List.drop_eq_nil_of_le (by simp; omega)]
    rfl

/-- Decode's worlds: its text in a box, its builder behind it. -/
def DecW (w : World) (s : ByteArray) (l : List UInt8) (wr : World) : Prop :=
  Bld (w.heap.size + 1) (w.heap.size + 1) l wr ∧ Below (w.heap.size + 1) (w.alloc (.cells #[.string s] 9)) wr
theorem DecW.cell {w wr : World} {s : ByteArray} {l : List UInt8} (h : DecW w s l wr) : wr.cell? ⟨w.heap.size, 0, none⟩ = some (.string s) :=
  (h.2.cell (p := ⟨w.heap.size, 0, none⟩) (Nat.lt_succ_self _)).trans (by simp)
theorem DecW.size {w wr : World} {s : ByteArray} {l : List UInt8} (h : DecW w s l wr) : w.heap.size + 1 ≤ wr.heap.size := by
  have := h.2.size
  simpa using this
theorem DecW.below {w wr : World} {s : ByteArray} {l : List UInt8} (h : DecW w s l wr) : Below w.heap.size w wr :=
  ((Below.refl _ _).alloc (Nat.le_refl _) _).trans (h.2.mono (Nat.le_succ _))
theorem DecW.new (w : World) (s : ByteArray) : DecW w s [] ((w.alloc (.cells #[.string s] 9)).alloc (.cells #[.pointer none, .slice none 0 0] 37)) := by
  have h := Lib.fresh_isBuilder 37 5 (w.alloc (.cells #[.string s] 9))
  have e : (w.alloc (.cells #[.string s] 9)).heap.size = w.heap.size + 1 := by simp
  rw [e] at h
  exact ⟨h, (Below.refl _ _).alloc (by rw [e]; exact Nat.le_refl _) _⟩
theorem DecW.byte {w wr : World} {s : ByteArray} {l : List UInt8} (h : DecW w s l wr) (c : UInt8) (x : Int) (hx : x = (c.toNat : Int)) (hl : l.length ≤ 10000) :
    Calls Try.prog 21 #[.pointer (some ⟨w.heap.size + 1, 0, none⟩), .int .u8 x] wr fun e w' => e = .returned .nilIface ∧ DecW w s (l ++ [c]) w' := by
  refine (bld_byte _ _ l c x wr h.1 hx (by omega) h.size).mono ?_
  rintro e w' ⟨rfl, h1, h2⟩
  exact ⟨rfl, h1, h.2.trans h2⟩
def TextPost (l : List UInt8) (w : World) (e : Ending) (w' : World) : Prop := e = .returned (.string ⟨l.toArray⟩) ∧ Below w.heap.size w w'
theorem DecW.done {w wr : World} {s : ByteArray} {l : List UInt8} (h : DecW w s l wr) :
    Calls Try.prog 23 #[.pointer (some ⟨w.heap.size + 1, 0, none⟩)] wr (TextPost l w) := by
  refine (bld_done _ _ l wr h.1 h.size).mono ?_
  rintro e w' ⟨rfl, h2⟩
  exact ⟨rfl, h.below.trans (h2.mono (Nat.le_succ _))⟩

theorem or_fin : ∀ a b : Fin 16, bits BinOp.or IntKind.u8 ((a.val : Int) * 16) (b.val : Int) = 16 * (a.val : Int) + (b.val : Int) := by decide +kernel
theorem or_16 {x y : Int} (hx0 : 0 ≤ x) (hx1 : x < 16) (hy0 : 0 ≤ y) (hy1 : y < 16) : bits BinOp.or IntKind.u8 (x * 16) y = 16 * x + y := by
  have := or_fin ⟨x.toNat, by omega⟩ ⟨y.toNat, by omega⟩
  simp only [Int.toNat_of_nonneg hx0, Int.toNat_of_nonneg hy0] at this
  exact this

set_option maxHeartbeats 1000000 in
set_option maxRecDepth 100000 in
theorem pdecode_any (s : ByteArray) (w : World) (h1 : s.size ≤ 5000) :
    Calls Try.prog 13 #[.string s] w (TextPost (pd s.data.toList) w) := by
  have H0 := Lib.hid (DecW.new w s)
  go_enter Try.func13, Try.ntmps13
  go_wp2
  go_loopw [5] (fun i wr => ∃ (k : Nat) (l : List UInt8), k ≤ s.size ∧ i = .int .i64 k ∧ pd s.data.toList = l ++ pd (s.data.toList.drop k) ∧ l.length ≤ k ∧ DecW w s l wr) (fun i _ => s.size - (intOf i).toNat)
  case atStart => exact ⟨0, [], Nat.zero_le _, rfl, rfl, Nat.le_refl _, H0.out⟩
  case round =>
    obtain ⟨k, l, hk, rfl, hd, hl, hm⟩ := hrel
    have HD := Lib.hid hd
    have HM := Lib.hid hm
    have hcell := hm.cell
    clear hd hm
    by_cases hlt : k < s.size
    · have HS := Lib.hid (pd_step (l := s.data.toList.drop k) (by rw [drop_cons s k hlt]; simp))
      have hu := (s[k]'hlt).toNat_lt
      obtain ⟨⟨x, p⟩, hx⟩ : ∃ y, fvAt s (k + 1) = y := ⟨_, rfl⟩
      obtain ⟨⟨y, q⟩, hy⟩ : ∃ y, fvAt s (k + 2) = y := ⟨_, rfl⟩
      have hx0 := fvAt_small s (k + 1)
      have hy0 := fvAt_small s (k + 2)
      rw [hx] at hx0
      rw [hy] at hy0
      simp only at hx0 hy0
      obtain ⟨hx0, hx1⟩ := hx0
      obtain ⟨hy0, hy1⟩ := hy0
      have HX := Lib.hid hx
      have HY := Lib.hid hy
      clear hx hy
      by_cases htake : s[k]'hlt = 37 ∧ p = true ∧ q = true
      · obtain ⟨e37, rfl, rfl⟩ := htake
        have HT := Lib.hid (step_take hlt e37 HX.out HY.out)
        have hle : k + 3 ≤ s.size := HT.out.2
        have hne : (((s[k]'hlt).toNat : Int) != 37) = false := by rw [e37]; rfl
        clear e37
        have HO : Hid (bits BinOp.or IntKind.u8 (x * 16) y = ((UInt8.ofNat (16 * x + y).toNat).toNat : Int)) := by
          show bits BinOp.or IntKind.u8 (x * 16) y = ((UInt8.ofNat (16 * x + y).toNat).toNat : Int)
          rw [or_16 hx0 hx1 hy0 hy1, ofNat_toNat (16 * x + y).toNat (by omega)]
          omega
        go_wp2_with (first
          | (go_at_call 26; with_reducible refine (decFig_any s _ (k + 1) ((k : Int) + 1) _ hcell (by omega)).mono ?_; rintro e w' ⟨rfl, rfl⟩; rw [HX.out])
          | (go_at_call 26; with_reducible refine (decFig_any s _ (k + 2) ((k : Int) + 2) _ hcell (by omega)).mono ?_; rintro e w' ⟨rfl, rfl⟩; rw [HY.out])
          | (go_at_call 21; refine (HM.out.byte (UInt8.ofNat (16 * x + y).toNat) _ HO.out (by omega)).mono ?_; rintro e w2 ⟨rfl, hm2⟩))
        go_roundw
        case rel =>
          refine ⟨k + 3, l ++ [UInt8.ofNat (16 * x + y).toNat], hle, by go_num, ?_, by simp; omega, hm2⟩
          rw [HD.out, HS.out, HT.out.1]
          simp [List.drop_drop]
        case measure => simp [intOf]; omega
      · have HT : Hid (step (s.data.toList.drop k) = (s[k]'hlt, 1)) := by
          refine step_leave hlt ?_
          rw [HX.out, HY.out]
          cases p <;> cases q <;> simp_all
        have hcond : ((((s[k]'hlt).toNat : Int) != 37) || (!p) || (!q)) = true := by
          cases p <;> cases q <;> simp_all
          intro e
          exact htake (UInt8.toNat_inj.1 (by show _ = 37; omega))
        clear htake
        by_cases hne : (((s[k]'hlt).toNat : Int) != 37) = true
        · clear hcond
          go_wp2_with (first
            | (go_at_call 26; with_reducible refine (decFig_any s _ (k + 1) ((k : Int) + 1) _ hcell (by omega)).mono ?_; rintro e w' ⟨rfl, rfl⟩; rw [HX.out])
            | (go_at_call 26; with_reducible refine (decFig_any s _ (k + 2) ((k : Int) + 2) _ hcell (by omega)).mono ?_; rintro e w' ⟨rfl, rfl⟩; rw [HY.out])
            | (go_at_call 21; refine (HM.out.byte (s[k]'hlt) _ rfl (by omega)).mono ?_; rintro e w2 ⟨rfl, hm2⟩))
          go_roundw
          case rel =>
            refine ⟨k + 1, l ++ [s[k]'hlt], hlt, by go_num, ?_, by simp; omega, hm2⟩
            rw [HD.out, HS.out, HT.out]
            simp [List.drop_drop]
          case measure => simp [intOf]; omega
        · have hne : (((s[k]'hlt).toNat : Int) != 37) = false := by simpa using hne
          rw [hne] at hcond
          cases p with
          | false =>
            clear hcond
            go_wp2_with (first
              | (go_at_call 26; with_reducible refine (decFig_any s _ (k + 1) ((k : Int) + 1) _ hcell (by omega)).mono ?_; rintro e w' ⟨rfl, rfl⟩; rw [HX.out])
              | (go_at_call 26; with_reducible refine (decFig_any s _ (k + 2) ((k : Int) + 2) _ hcell (by omega)).mono ?_; rintro e w' ⟨rfl, rfl⟩; rw [HY.out])
              | (go_at_call 21; refine (HM.out.byte (s[k]'hlt) _ rfl (by omega)).mono ?_; rintro e w2 ⟨rfl, hm2⟩))
            go_roundw
            case rel =>
              refine ⟨k + 1, l ++ [s[k]'hlt], hlt, by go_num, ?_, by simp; omega, hm2⟩
              rw [HD.out, HS.out, HT.out]
              simp [List.drop_drop]
            case measure => simp [intOf]; omega
          | true =>
            cases q with
            | false =>
              clear hcond
              go_wp2_with (first
                | (go_at_call 26; with_reducible refine (decFig_any s _ (k + 1) ((k : Int) + 1) _ hcell (by omega)).mono ?_; rintro e w' ⟨rfl, rfl⟩; rw [HX.out])
                | (go_at_call 26; with_reducible refine (decFig_any s _ (k + 2) ((k : Int) + 2) _ hcell (by omega)).mono ?_; rintro e w' ⟨rfl, rfl⟩; rw [HY.out])
                | (go_at_call 21; refine (HM.out.byte (s[k]'hlt) _ rfl (by omega)).mono ?_; rintro e w2 ⟨rfl, hm2⟩))
              go_roundw
              case rel =>
                refine ⟨k + 1, l ++ [s[k]'hlt], hlt, by go_num, ?_, by simp; omega, hm2⟩
                rw [HD.out, HS.out, HT.out]
                simp [List.drop_drop]
              case measure => simp [intOf]; omega
            | true => simp at hcond
    · have HE : Hid (l = pd s.data.toList) := by
        show l = pd s.data.toList
        rw [HD.out, drop_end s k (by omega), pd_nil, List.append_nil]
      go_wp2_with (go_at_call 23; refine HM.out.done.mono ?_; rintro e w2 ⟨rfl, hb2⟩)
      go_ret
      exact ⟨by rw [HE.out]; rfl, hb2⟩
end Go.Proofs.Ytlekbkmcjpnifaa

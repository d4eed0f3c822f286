/-
  strings.ContainsRune, and what it calls, on a text of bytes below 128, at whatever number; pct.In's closure.
-/
import Derived.Test.YtlekbkmcjpnifaaPMath
import Derived.Test.YtlekbkmcjpnifaaRef3
import Derived.Laws.Runes
import Derived.Laws.Externs
import Derived.Laws.RangeString
import Derived.WalkMore
namespace Go.Proofs.Ytlekbkmcjpnifaa
open Go.RowKit

theorem indexByteE (s : ByteArray) (c : Int) (w : World) : (callFunc 43 #[.string s, .int .u8 c]).run Try.prog w = .ok (.value (.int .i64 (firstIdx s c.toNat.toUInt8))) w := by
  rw [run_callFunc_extern Try.func43 (by kernel_rfl) (by kernel_rfl) (by kernel_rfl) (e := Extern.BytealgIndexByte.indexByte) (by kernel_rfl), run_indexByte_string]
  rfl

theorem liteIndexByte_any (s : ByteArray) (c : Int) (w : World) :
    Calls Try.prog 42 #[.string s, .int .u8 c] w fun e w' => e = .returned (.int .i64 (firstIdx s c.toNat.toUInt8)) ∧ w = w' := by
  have hib := indexByteE s c
  go_enter Try.func42, Try.ntmps42
  go_wp2
  go_ret
  exact ⟨rfl, rfl⟩

theorem indexByte_any (s : ByteArray) (c : Int) (w : World) :
    Calls Try.prog 37 #[.string s, .int .u8 c] w fun e w' => e = .returned (.int .i64 (firstIdx s c.toNat.toUInt8)) ∧ w = w' := by
  go_enter Try.func37, Try.ntmps37
  go_wp2_with (go_at_call 42; refine (liteIndexByte_any _ _ _).mono ?_; rintro e w' ⟨rfl, rfl⟩)
  go_ret
  exact ⟨rfl, rfl⟩

theorem validRune_any (c : Int) (w : World) :
    Calls Try.prog 38 #[.int .i32 c] w fun e w' => e = .returned (.bool (scal c)) ∧ w = w' := by
  go_enter Try.func38, Try.ntmps38
  go_wp2
  all_goals
    go_ret
    refine ⟨ret_bool ?_, rfl⟩
    first
    | (symm; rw [scal_iff]; omega)
    | (symm; rw [Bool.eq_false_iff, Ne, scal_iff]; omega)

set_option maxHeartbeats 1000000 in
set_option maxRecDepth 100000 in
/-- A byte. -/
theorem indexRune_byte (s : ByteArray) (c : Int) (w : World) (h0 : 0 ≤ c) (h1 : c < 128) :
    Calls Try.prog 32 #[.string s, .int .i32 c] w fun e w' => e = .returned (.int .i64 (firstIdx s c.toNat.toUInt8)) ∧ w = w' := by
  go_enter Try.func32, Try.ntmps32
  go_wp2_with (go_at_call 37; refine (indexByte_any _ _ _).mono ?_; rintro e w' ⟨rfl, rfl⟩)
  go_ret
  exact ⟨rfl, rfl⟩

set_option maxHeartbeats 1000000 in
set_option maxRecDepth 100000 in
/-- No scalar. -/
theorem indexRune_bad (s : ByteArray) (c : Int) (w : World) (h : scal c = false) (h1 : c ≠ 65533) (h2 : c < 0 ∨ 128 ≤ c) :
    Calls Try.prog 32 #[.string s, .int .i32 c] w fun e w' => e = .returned (.int .i64 (-1)) ∧ w = w' := by
  go_enter Try.func32, Try.ntmps32
  go_wp2_with (go_at_call 38; refine (validRune_any _ _).mono ?_; rintro e w' ⟨rfl, rfl⟩; rw [h])
  all_goals
    go_ret
    exact ⟨rfl, rfl⟩

set_option maxHeartbeats 1000000 in
set_option maxRecDepth 100000 in
/-- U+FFFD. -/
theorem indexRune_sign (s : ByteArray) (w : World) (hs : ∀ b ∈ s.data.toList, b.toNat < 128) :
    Calls Try.prog 32 #[.string s, .int .i32 65533] w fun e w' => e = .returned (.int .i64 (-1)) ∧ Below w.heap.size w w' := by
  have HA := Lib.hid hs
  clear hs
  go_enter Try.func32, Try.ntmps32
  go_wp2
  go_loopg [5, 6] s.size (fun g _ _ wx => ∃ i : Nat, i + g = s.size ∧ wx = w.iter s i)
  case atStart => exact ⟨0, by omega, rfl⟩
  case round =>
    obtain ⟨i, hig, rfl⟩ := hrel
    cases gk with
    | zero =>
      obtain rfl : i = s.size := by omega
      have hnx := run_next_end (P := Try.prog) w s s.size
      go_wp2
      go_ret
      exact ⟨rfl, (Below.refl _ _).alloc (Nat.le_refl _) _⟩
    | succ g =>
      have hi : i < s.size := by omega
      have hlt : (s[i]'hi).toNat < 128 := HA.out _ (Array.getElem_mem_toList (xs := s.data) hi)
      have hnx := fun ty => run_next_ascii (P := Try.prog) w s i ty hi hlt
      have hne : (((s[i]'hi).toNat : Int) == 65533) = false := by rw [beq_eq_false_iff_ne]; omega
      go_wp2
      go_roundg g
      case measure => omega
      case rel => exact ⟨i + 1, by omega, rfl⟩

theorem indexByte_none (s : ByteArray) (n : Nat) (b : UInt8) (w : World) (hf : firstIdx (s.extract (n + 1) s.size) b = -1) :
    Calls Try.prog 37 #[.string (s.extract (n + 1) s.size), .int .u8 (b.toNat : Int)] w fun e w' => e = .returned (.int .i64 (-1)) ∧ w' = w := by
  refine (indexByte_any _ _ w).mono ?_
  rintro e w' ⟨rfl, rfl⟩
  have : ((b.toNat : Int)).toNat.toUInt8 = b := by simp
  exact ⟨by rw [this, hf], rfl⟩

set_option maxHeartbeats 1000000 in
set_option maxRecDepth 100000 in
/-- A scalar that is no byte. -/
theorem indexRune_far (s : ByteArray) (c : Int) (w : World) (hs : ∀ b ∈ s.data.toList, b.toNat < 128) (h : scal c = true) (h1 : c ≠ 65533) (h2 : 128 ≤ c) :
    Calls Try.prog 32 #[.string s, .int .i32 c] w fun e w' => e = .returned (.int .i64 (-1)) ∧ Below w.heap.size w w' := by
  obtain ⟨e1, e2, e3⟩ := encode_facts c ((valid_scal c).trans h) h2
  have HA := Lib.hid hs
  have HS := Lib.hid h
  clear hs h
  go_enter Try.func32, Try.ntmps32
  go_wp2_with (go_at_call 38; refine (validRune_any _ _).mono ?_; rintro e w' ⟨rfl, rfl⟩; rw [HS.out])
  obtain ⟨rs, hrs⟩ : ∃ rs, Utf8.encode c = rs := ⟨_, rfl⟩
  rw [hrs] at e1 e2 e3
  have hcv := fun w => (run_convert_int_string (P := Try.prog) w 21 9 .i32 c (by rw [Try.underlying21]; rfl) Try.underlying9).trans (by rw [hrs])
  clear hrs
  go_step3
  go_wp2
  obtain ⟨n, hn⟩ : ∃ n : Nat, n + 1 = rs.size := ⟨rs.size - 1, by omega⟩
  have hn1 : ((rs.size : Int) - 1) = (n : Int) := by omega
  have hn2 : n < rs.size := by omega
  have hn3 : 128 ≤ (rs[n]'hn2).toNat := by
    have := e3 (by omega)
    have e : rs.size - 1 = n := by omega
    simpa only [e] using this
  rw [hn1]
  have hn4 : n < 4 := by omega
  clear e3 hn1 hn
  go_loopw [9, 10] (fun i f wr => i = .int .i64 (n : Int) ∧ f = .int .i64 0 ∧ wr = w) (fun _ _ _ => 1)
  case atStart => exact ⟨rfl, rfl, rfl⟩
  case round =>
    obtain ⟨rfl, rfl, rfl⟩ := hrel
    by_cases hlt : n < s.size
    · have hb : (s[n]'hlt).toNat < 128 := HA.out _ (Array.getElem_mem_toList (xs := s.data) hlt)
      have hne : (((s[n]'hlt).toNat : Int) != ((rs[n]'hn2).toNat : Int)) = true := by rw [bne_iff_ne]; omega
      have hf : firstIdx (s.extract (n + 1) s.size) (rs[n]'hn2) = -1 := firstIdx_ascii s _ _ _ HA.out hn3
      go_wp2
      go_step3
      go_wp2_with fail
      go_quiet (fail)
      go_wp2_with fail
      have hbw : Below wr.heap.size wr (wr.drewN nq) := below_drewN (Below.refl _ _) _
      generalize wr.drewN nq = w2 at hbw ⊢
      have HF := Lib.hid hf
      have hu := (rs[n]'hn2).toNat_lt
      have hwr : IntKind.i64.wrap ((n : Int) + 1) = (n : Int) + 1 := IntWalk.i64_in _ (by omega)
      have htn : ((n : Int) + 1).toNat = n + 1 := by omega
      clear hf hne hb hn3
      go_quiet ((go_at_call 37; exact Calls.quiet_of_same (indexByte_none _ _ _ _ HF.out)))
      go_wp2
      rw [Exit.noGoto_ret]
      go_wp2
      rw [Exit.noGoto_ret]
      go_ret
      exact ⟨rfl, below_drewN hbw _⟩
    · go_wp2
      rw [Exit.noGoto_ret]
      go_ret
      exact ⟨rfl, Below.refl _ _⟩

theorem amid_far (l : List UInt8) (c : Int) (hs : ∀ b ∈ l, b.toNat < 128) (h : c < 0 ∨ 128 ≤ c) : amid l c = false := by
  unfold amid
  rw [List.any_eq_false]
  intro b hb
  have := hs b hb
  simp only [decide_eq_true_eq]
  omega
theorem amid_near (s : ByteArray) (c : Int) (h0 : 0 ≤ c) (h1 : c < 128) : decide (0 ≤ firstIdx s c.toNat.toUInt8) = amid s.data.toList c := by
  rw [firstIdx_nonneg]
  unfold amid
  congr 1
  funext b
  have hb := b.toNat_lt
  by_cases e : c = (b.toNat : Int)
  · subst e; simp
  · rw [decide_eq_false e, beq_eq_false_iff_ne]
    rintro rfl
    apply e
    simp
    omega
def RunePost (s : ByteArray) (c : Int) (w : World) (e : Ending) (w' : World) : Prop :=
  ∃ v : Int, e = .returned (.int .i64 v) ∧ decide (0 ≤ v) = amid s.data.toList c ∧ Below w.heap.size w w'
theorem indexRune_any (s : ByteArray) (c : Int) (w : World) (hs : ∀ b ∈ s.data.toList, b.toNat < 128) :
    Calls Try.prog 32 #[.string s, .int .i32 c] w (RunePost s c w) := by
  by_cases h : 0 ≤ c ∧ c < 128
  · refine (indexRune_byte s c w h.1 h.2).mono ?_
    rintro e w' ⟨rfl, rfl⟩
    exact ⟨_, rfl, amid_near s c h.1 h.2, Below.refl _ _⟩
  · have hf : amid s.data.toList c = false := amid_far _ c hs (by omega)
    by_cases h1 : c = 65533
    · subst h1
      refine (indexRune_sign s w hs).mono ?_
      rintro e w' ⟨rfl, hb⟩
      exact ⟨_, rfl, by rw [hf]; rfl, hb⟩
    · by_cases hsc : scal c = true
      · refine (indexRune_far s c w hs hsc h1 (by have := (scal_iff c).1 hsc; omega)).mono ?_
        rintro e w' ⟨rfl, hb⟩
        exact ⟨_, rfl, by rw [hf]; rfl, hb⟩
      · refine (indexRune_bad s c w (Bool.eq_false_iff.2 hsc) h1 (by omega)).mono ?_
        rintro e w' ⟨rfl, rfl⟩
        exact ⟨_, rfl, by rw [hf]; rfl, Below.refl _ _⟩

def AmidPost (b : Bool) (w : World) (e : Ending) (w' : World) : Prop := e = .returned (.bool b) ∧ Below w.heap.size w w'
set_option maxHeartbeats 400000 in
theorem containsRune_any (s : ByteArray) (c : Int) (w : World) (hs : ∀ b ∈ s.data.toList, b.toNat < 128) :
    Calls Try.prog 18 #[.string s, .int .i32 c] w (AmidPost (amid s.data.toList c) w) := by
  have HS := Lib.hid hs
  clear hs
  go_enter Try.func18, Try.ntmps18
  go_wp2_with (go_at_call 32; refine (indexRune_any _ _ _ HS.out).mono ?_; rintro e w' ⟨v, rfl, hv, hb⟩; have HV := Lib.hid hv; clear hv)
  go_ret
  exact ⟨ret_bool HV.out, hb⟩

set_option maxHeartbeats 400000 in
/-- The closure of In. -/
theorem among_any (s : ByteArray) (c : Int) (p : Addr) (w : World) (hp : w.cell? p = some (.int .i32 c)) (hs : ∀ b ∈ s.data.toList, b.toNat < 128) :
    Calls Try.prog 17 #[.string s, .pointer (some p)] w (AmidPost (amid s.data.toList c) w) := by
  have HS := Lib.hid hs
  clear hs
  go_enter Try.func17, Try.ntmps17
  go_wp2_with (go_at_call 18; refine (containsRune_any _ _ _ HS.out).mono ?_; rintro e w' ⟨rfl, hb⟩)
  go_ret
  exact ⟨rfl, hb⟩
end Go.Proofs.Ytlekbkmcjpnifaa

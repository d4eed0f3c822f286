/-
  The document's answers of layer 2 (begin, value, bytes, Decode, Encode, Valid), by their contracts.
-/
import Derived.Test.YtlekbkmcjpnifaaLists
import Derived.IntWalk
namespace Go.Proofs.Ytlekbkmcjpnifaa
open Go.RowKit

theorem follows_true (a c : Int) (k : Nat) (w : World) (hk : 1 ≤ k) (h : fol a c k = true) :
    Calls Try.prog 36 #[.int .u8 a, .int .u8 c, .int .i64 k] w fun e w' => e = .returned (.bool true) ∧ w' = w :=
  (follows_any a c k w hk).mono fun _ _ ⟨he, hw⟩ => ⟨by rw [he, h], hw.symm⟩
theorem follows_false (a c : Int) (k : Nat) (w : World) (hk : 1 ≤ k) (h : fol a c k = false) :
    Calls Try.prog 36 #[.int .u8 a, .int .u8 c, .int .i64 k] w fun e w' => e = .returned (.bool false) ∧ w' = w :=
  (follows_any a c k w hk).mono fun _ _ ⟨he, hw⟩ => ⟨by rw [he, h], hw.symm⟩

/-- How many bytes, from a place on, are the longest begin of some scalar's. -/
def begOf (s : ByteArray) (k : Nat) (h : k < s.size) : Nat := if lensOf s[k].toNat = 0 then 0 else ext s[k].toNat (lensOf s[k].toNat) 1 (s.data.toList.drop (k + 1))

def BegRel (s : ByteArray) (k : Nat) (h : k < s.size) (n j : Nat) : Prop :=
  (n = 0 ∧ j = 0) ∨ (1 ≤ n ∧ 1 ≤ j ∧ j ≤ n ∧ k + j ≤ s.size ∧ ext s[k].toNat n 1 (s.data.toList.drop (k + 1)) = ext s[k].toNat n j (s.data.toList.drop (k + j)))

theorem BegRel.ends {s : ByteArray} {k : Nat} {h : k < s.size} {n j : Nat} (r : BegRel s k h n j) (hn : lensOf s[k].toNat = n)
    (hj : ¬ (0 < j ∧ j < n ∧ k + j < s.size) ∨ ∃ hs : k + j < s.size, fol s[k].toNat s[k + j].toNat j = false) : begOf s k h = j := by
  unfold begOf
  rcases r with ⟨h1, h2⟩ | ⟨h1, h2, h3, h4, h5⟩
  · rw [if_pos (by omega), h2]
  · rw [if_neg (by omega), hn, h5]
    rcases hj with hj | ⟨hs, hf⟩
    · by_cases e : j = n
      · subst e; exact ext_full _ _ _ _ (Nat.le_refl _)
      · rw [drop_end s (k + j) (by omega), ext_nil]
    · rw [drop_byte s (k + j) hs, ext_bad _ _ _ _ _ hf]
theorem BegRel.next {s : ByteArray} {k : Nat} {h : k < s.size} {n j : Nat} (r : BegRel s k h n j) (h0 : 0 < j) (h1 : j < n) (h2 : k + j < s.size) (hf : fol s[k].toNat s[k + j].toNat j = true) : BegRel s k h n (j + 1) := by
  rcases r with ⟨h1, h2⟩ | ⟨h1, h2, h3, h4, h5⟩
  · omega
  · refine .inr ⟨h1, by omega, by omega, by omega, ?_⟩
    rw [h5, drop_byte s (k + j) (by omega), ext_good _ _ _ _ _ (by omega) hf]
    rfl

set_option maxHeartbeats 1000000 in
set_option maxRecDepth 100000 in
theorem begin_any (s : ByteArray) (k : Nat) (w : World) (hk0 : k < s.size) (hs : s.size ≤ 2000) :
    Calls Try.prog 29 #[.string s, .int .i64 k] w fun e w' => e = .returned (.int .i64 (begOf s k hk0 : Nat)) ∧ Below w.heap.size w w' := by
  have hu := s[k].toNat_lt
  obtain ⟨n, hn⟩ : ∃ n, lensOf s[k].toNat = n := ⟨_, rfl⟩
  have hn4 : n ≤ 4 := by rw [← hn]; exact lensOf_le _
  have HN := Lib.hid hn
  clear hn
  go_enter Try.func29, Try.ntmps29
  go_wp2_with (go_at_call 30; refine (many_any _ _).mono ?_; rintro e w' ⟨rfl, rfl⟩; rw [HN.out])
  all_goals
    go_loopw [6] (fun i wr => ∃ j : Nat, i = .int .i64 j ∧ BegRel s k hk0 n j ∧ Below w.heap.size w wr) (fun i _ => 4 - (intOf i).toNat)
    case atStart =>
      first
      | exact ⟨1, rfl, .inr ⟨by omega, by omega, by omega, by omega, rfl⟩, Below.refl _ _⟩
      | exact ⟨n, rfl, (by
          by_cases e : n = 0
          · exact .inl ⟨e, e⟩
          · obtain rfl : n = 1 := by omega
            exact .inr ⟨by omega, by omega, by omega, by omega, rfl⟩), Below.refl _ _⟩
    case round =>
      obtain ⟨j, rfl, hr, hb⟩ := hrel
      have hj4 : j ≤ 4 := by rcases hr with h | h <;> omega
      have HR := Lib.hid hr
      clear hr
      by_cases h0 : 0 < j
      · have d0 : decide (0 < (j : Int)) = true := by simpa using h0
        by_cases h1 : j < n
        · have d1 : decide ((j : Int) < (n : Int)) = true := by simpa using h1
          have d1' : decide (j < n) = true := by simpa using h1
          by_cases h2 : k + j < s.size
          · have d2 : decide ((k : Int) + (j : Int) < (s.size : Int)) = true := by simp; omega
            have hku := s[k + j].toNat_lt
            have hin : 0 ≤ (k : Int) + (j : Int) ∧ (k : Int) + (j : Int) < (s.size : Int) := by omega
            by_cases hf : fol s[k].toNat s[k + j].toNat j = true
            · have HF := Lib.hid hf
              have HX := Lib.hid (HR.out.next h0 h1 h2 hf)
              clear hf
              have hwr : IntKind.i64.wrap ((k : Int) + (j : Int)) = (k : Int) + (j : Int) := IntWalk.i64_in _ (by omega)
              have htn : ((k : Int) + (j : Int)).toNat = k + j := by omega
              go_wp2_with fail
              go_quiet ((go_at_call 36; exact Calls.quiet_of_same (follows_true _ _ _ _ h0 HF.out)))

              go_wp2
              go_roundw
              case rel => exact ⟨j + 1, by go_num, HX.out, below_drewN hb _⟩
              case measure => simp [intOf]; omega
            · have HF := Lib.hid (Bool.eq_false_iff.2 hf)
              clear hf
              have hwr : IntKind.i64.wrap ((k : Int) + (j : Int)) = (k : Int) + (j : Int) := IntWalk.i64_in _ (by omega)
              have htn : ((k : Int) + (j : Int)).toNat = k + j := by omega
              go_wp2_with fail
              go_quiet ((go_at_call 36; exact Calls.quiet_of_same (follows_false _ _ _ _ h0 HF.out)))

              go_wp2
              go_ret
              exact ⟨by rw [HR.out.ends HN.out (Or.inr ⟨h2, HF.out⟩)]; rfl, below_drewN hb _⟩
          · have d2 : decide ((k : Int) + (j : Int) < (s.size : Int)) = false := by simp; omega
            have hwr : IntKind.i64.wrap ((k : Int) + (j : Int)) = (k : Int) + (j : Int) := IntWalk.i64_in _ (by omega)
            go_wp2_with fail
            go_quiet (fail)
            go_wp2
            go_ret
            exact ⟨by rw [HR.out.ends HN.out (Or.inl (by omega))]; rfl, below_drewN hb _⟩
        · have d1 : decide ((j : Int) < (n : Int)) = false := by simpa using h1
          have d1' : decide (j < n) = false := by simpa using h1
          go_wp2_with fail
          go_quiet (fail)
          go_wp2
          go_ret
          exact ⟨by rw [HR.out.ends HN.out (Or.inl (by omega))]; rfl, below_drewN hb _⟩
      · have d0 : decide (0 < (j : Int)) = false := by simpa using h0
        go_wp2_with fail
        go_quiet (fail)
        go_wp2
        go_ret
        exact ⟨by rw [HR.out.ends HN.out (Or.inl (by omega))]; rfl, below_drewN hb _⟩

theorem acc_snoc (v : Int) (t : List UInt8) (c : UInt8) : acc v (t ++ [c]) = 64 * acc v t + (c.toNat : Int) - 128 := by
  unfold acc; rw [List.foldl_append]; simp only [List.foldl]; omega

def ValRel (s : ByteArray) (h0 : 0 < s.size) (k : Nat) (v : Int) : Prop :=
  1 ≤ k ∧ k ≤ s.size ∧ v = acc (headBits s[0].toNat s.size) ((s.data.toList.drop 1).take (k - 1)) ∧
  (k = 1 → -300 ≤ v ∧ v ≤ 300) ∧ (k = 2 → -20000 ≤ v ∧ v ≤ 20000) ∧ (k = 3 → -1300000 ≤ v ∧ v ≤ 1300000) ∧ (k = 4 → -90000000 ≤ v ∧ v ≤ 90000000)

theorem ValRel.next {s : ByteArray} {h0 : 0 < s.size} {k : Nat} {v : Int} (r : ValRel s h0 k v) (h : k < s.size) : ValRel s h0 (k + 1) (64 * v + (s[k].toNat : Int) - 128) := by
  obtain ⟨r1, r2, r3, r4, r5, r6, r7⟩ := r
  have hu : s[k].toNat < 256 := s[k].toNat_lt
  refine ⟨by omega, by omega, ?_, by omega, by omega, by omega, by omega⟩
  rw [Nat.add_sub_cancel, take_byte s k h r1, acc_snoc, r3]

set_option maxHeartbeats 1000000 in
set_option maxRecDepth 100000 in
theorem value_any (s : ByteArray) (w : World) (h0 : 0 < s.size) (h4 : s.size ≤ 4) :
    Calls Try.prog 31 #[.string s] w fun e w' => e = .returned (.int .i32 (acc (headBits s[0].toNat s.size) (s.data.toList.drop 1))) ∧ Below w.heap.size w w' := by
  have hu := s[0].toNat_lt
  by_cases h1 : s.size = 1
  · have HE : Hid (acc (headBits s[0].toNat s.size) (s.data.toList.drop 1) = s[0].toNat) := by
      show acc (headBits s[0].toNat s.size) (s.data.toList.drop 1) = s[0].toNat
      rw [drop_end s 1 (by omega), h1]
      simp [acc, headBits]
    have he : ((s.size : Int) == 1) = true := by rw [beq_iff_eq]; omega
    clear h1
    go_enter Try.func31, Try.ntmps31
    go_wp2
    go_ret
    exact ⟨by rw [HE.out]; rfl, Below.refl _ _⟩
  · have hm : s.size = 2 ∨ s.size = 3 ∨ s.size = 4 := by omega
    clear h1
    rcases hm with hm | hm | hm
    all_goals
      have HM := Lib.hid hm
      go_enter Try.func31, Try.ntmps31
      go_wp2
      go_region
      go_wp2
      go_loopw [3, 4] (fun c i wr => ∃ (k : Nat) (v : Int), i = .int .i64 k ∧ c = .int .i32 v ∧ ValRel s h0 k v ∧ Below w.heap.size w wr) (fun _ i _ => 4 - (intOf i).toNat)
      case atStart =>
        refine ⟨1, _, rfl, rfl, ⟨Nat.le_refl _, by omega, ?_, fun _ => by omega, fun h => by omega, fun h => by omega, fun h => by omega⟩, ((Below.refl _ _).alloc (Nat.le_refl _) _).drew⟩
        simp [acc, headBits, hm]
      case round =>
        obtain ⟨k, v, rfl, rfl, hr, hb⟩ := hrel
        have hkb : 1 ≤ k ∧ k ≤ s.size ∧ -90000000 ≤ v ∧ v ≤ 90000000 ∧ (k < s.size → -1300000 ≤ v ∧ v ≤ 1300000) := by
          obtain ⟨r1, r2, r3, r4, r5, r6, r7⟩ := hr
          omega
        obtain ⟨b1, b2, b3, b4, b5⟩ := hkb
        have HR := Lib.hid hr
        clear hr
        by_cases hlt : k < s.size
        · obtain ⟨b6, b7⟩ := b5 hlt
          have hku := s[k].toNat_lt
          have HX := Lib.hid (HR.out.next hlt)
          have hlt' : k < 4 := by omega
          clear b5
          rw [hm] at hlt b2
          go_wp2
          go_roundw
          case rel => exact ⟨k + 1, _, by go_num, rfl, HX.out, hb⟩
          case measure => simp [intOf]; omega
        · have hk : k = s.size := by omega
          have HE : Hid (v = acc (headBits s[0].toNat s.size) (s.data.toList.drop 1)) := by
            show v = acc (headBits s[0].toNat s.size) (s.data.toList.drop 1)
            obtain ⟨r1, r2, r3, r4, r5, r6, r7⟩ := HR.out
            rw [r3, List.take_of_length_le (by simp; omega)]
          clear hk b5
          rw [hm] at hlt b2
          go_wp2
          go_ret
          exact ⟨by rw [← HE.out]; rfl, hb⟩
end Go.Proofs.Ytlekbkmcjpnifaa

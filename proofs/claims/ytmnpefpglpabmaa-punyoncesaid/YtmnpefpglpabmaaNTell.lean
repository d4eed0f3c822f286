/-
  The document's tell, least, hyphen, weighted, by their contracts.
-/
import Derived.Test.YtmnpefpglpabmaaNSmall
namespace Go.Proofs.Ytmnpefpglpabmaa
open Go.RowKit

def TellPost (l : List UInt8) (w : World) (e : Ending) (w' : World) : Prop := ∃ v, e = .returned v ∧ MadeB w w' v l

/-- Numbers as runes. -/
def ints (l : List Nat) : List Int := l.map fun n : Nat => (n : Int)
theorem ints_length (l : List Nat) : (ints l).length = l.length := by simp [ints]
theorem ints_at (l : List Nat) (k : Nat) (h : k < l.length) : (ints l)[k]? = some ((l[k] : Nat) : Int) := by simp [ints, h]

def leastG (n m : Nat) (l : List Nat) : Nat := l.foldl (fun m c => if n ≤ c ∧ c < m then c else m) m
theorem leastG_succ (n m : Nat) (l : List Nat) (k : Nat) (h : k < l.length) : leastG n m (l.take (k + 1)) = if n ≤ l[k] ∧ l[k] < leastG n m (l.take k) then l[k] else leastG n m (l.take k) := by
  unfold leastG
  rw [List.take_succ_eq_append_getElem h, List.foldl_append]
  rfl

theorem drop_cons (s : ByteArray) (k : Nat) (h : k < s.size) : s.data.toList.drop k = s[k]'h :: s.data.toList.drop (k + 1) := by
  rw [List.drop_eq_getElem_cons (by simpa using h)]
  rfl
theorem byte_eq {b : UInt8} {n : Nat} (hn : n < 256) : ((b.toNat : Int) == (n : Int)) = true ↔ b = UInt8.ofNat n := by
  rw [beq_iff_eq]
  constructor
  · intro h
    apply UInt8.toNat_inj.1
    have : b.toNat = n := by omega
    rw [this]
    simp
    omega
  · rintro rfl
    simp
    omega

set_option maxHeartbeats 400000 in
theorem hyphen_any (s : ByteArray) (w : World) (hs : s.size ≤ 1000000) :
    Calls Try.prog 35 #[.string s] w fun e w' => e = .returned (.int .i64 (hyph s.data.toList)) ∧ w = w' := by
  go_enter Try.func35, Try.ntmps35
  go_wp2
  go_loopw [3] (fun a wr => ∃ k : Nat, k ≤ s.size ∧ a = .int .i64 ((k : Int) - 1) ∧ wr = w ∧ (45 : UInt8) ∉ s.data.toList.drop k) (fun a _ => (intOf a + 1).toNat)
  case atStart => exact ⟨s.size, Nat.le_refl _, rfl, rfl, by rw [List.drop_eq_nil_of_le (by simp)]; simp⟩
  case round =>
    obtain ⟨k, hk, rfl, rfl, hm⟩ := hrel
    have HM := Lib.hid hm
    clear hm
    cases k with
    | zero =>
      have HE := Lib.hid (hyph_none (s := s.data.toList) (by simpa using HM.out))
      go_wp2
      go_ret
      exact ⟨ret_int (by rw [HE.out]), rfl⟩
    | succ k =>
      have hlt : k < s.size := by omega
      have hkk : (((k + 1 : Nat) : Int) - 1) = (k : Int) := by omega
      rw [hkk]
      clear hkk
      have hu := (s[k]'hlt).toNat_lt
      by_cases h : s[k]'hlt = 45
      · have he : (((s[k]'hlt).toNat : Int) == 45) = true := by rw [h]; rfl
        have HE : Hid (hyph s.data.toList = (k : Int)) := by
          have hsp : s.data.toList = s.data.toList.take k ++ 45 :: s.data.toList.drop (k + 1) := by
            rw [← h, ← drop_cons s k hlt, List.take_append_drop]
          show hyph s.data.toList = (k : Int)
          rw [hsp, hyph_at HM.out]
          simp
          omega
        clear h
        go_wp2
        go_ret
        exact ⟨ret_int (by rw [HE.out]), rfl⟩
      · have he : (((s[k]'hlt).toNat : Int) == 45) = false := by
          rw [Bool.eq_false_iff]
          exact fun e => h ((byte_eq (n := 45) (by omega)).1 e)
        have HE : Hid ((45 : UInt8) ∉ s.data.toList.drop k) := by
          show (45 : UInt8) ∉ s.data.toList.drop k
          rw [drop_cons s k hlt]
          simp only [List.mem_cons, not_or]
          exact ⟨fun e => h e.symm, HM.out⟩
        clear h
        go_wp2
        go_roundw
        case rel => exact ⟨k, by omega, by go_num, by first | rfl | trivial, HE.out⟩
        case measure => simp [intOf]

/-- What weighted tells: the number and the place behind it; twice 0 where something is wrong. -/
def wres (s : ByteArray) (o : Option (Nat × List UInt8)) : Nat × Nat := match o with
  | none => (0, 0)
  | some (j, r) => (j, s.size - r.length)
theorem par_nil (bias k w i : Nat) : par [] bias k w i = none := rfl
theorem par_cons (c : UInt8) (s : List UInt8) (bias k w i : Nat) : par (c :: s) bias k w i =
    if dval c.toNat < 0 then none
    else if 1099511627776 < i + (dval c.toNat).toNat * w then none
    else if (dval c.toNat).toNat < thr k bias then some (i + (dval c.toNat).toNat * w, s)
    else if 1099511627776 < w * (36 - thr k bias) then none
    else par s bias (k + 36) (w * (36 - thr k bias)) (i + (dval c.toNat).toNat * w) := rfl
theorem dval_lt (c : UInt8) : dval c.toNat < 36 := by
  by_cases h : 0 ≤ dval c.toNat
  · have := (lower_val c h).2.1
    omega
  · omega

end Go.Proofs.Ytmnpefpglpabmaa

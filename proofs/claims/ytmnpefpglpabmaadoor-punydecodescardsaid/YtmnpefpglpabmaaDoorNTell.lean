/-
  The document's tell, least, hyphen, weighted, by their contracts.
-/
import Derived.Test.YtmnpefpglpabmaaDoorNSmall
namespace Go.Proofs.YtmnpefpglpabmaaDoor
open Go.RowKit

def TellPost (l : List UInt8) (w : World) (e : Ending) (w' : World) : Prop := ∃ v, e = .returned v ∧ MadeB w w' v l

set_option maxHeartbeats 1000000 in
set_option maxRecDepth 100000 in
theorem tell_any (q bias : Nat) (x y : Int) (w : World) (hx : x = (q : Int)) (hy : y = (bias : Int)) (hq : q ≤ 4294967296) (hb : bias ≤ 8589934592) :
    Calls Tryd.prog 29 #[.int .i64 x, .int .i64 y] w (TellPost (tellK q bias 36) w) := by
  subst hx; subst hy
  obtain ⟨i0, hi, hz0, hz1, hz2⟩ := info_parts Tryd.infoB
  have HI := Lib.hid (And.intro hi (And.intro hz0 (And.intro hz1 hz2)))
  clear hi hz0 hz1 hz2
  go_enter Tryd.func29, Tryd.ntmps29
  go_wp2
  go_loopw [0, 5, 6] (fun a v b wr => ∃ (q1 k : Nat) (l : List UInt8), a = .int .i64 q1 ∧ b = .int .i64 k ∧ MadeB w wr v l ∧ l ++ tellK q1 bias k = tellK q bias 36 ∧ k + 36 * q1 ≤ 36 + 36 * q ∧ l.length + q1 ≤ q) (fun a _ _ _ => (intOf a).toNat)
  case atStart => exact ⟨q, 36, [], rfl, rfl, ⟨World.ownsRow_nil _ _ _ _, Below.refl _ _⟩, rfl, by omega, by simp⟩
  case round =>
    obtain ⟨q1, k, l, rfl, rfl, hm, hl, hk, hll⟩ := hrel
    have HM := Lib.hid hm
    have HL := Lib.hid hl
    clear hm hl
    have ht := thr_pos k bias
    obtain ⟨t, htt⟩ : ∃ t, thr k bias = t := ⟨_, rfl⟩
    rw [htt] at ht
    obtain ⟨ht0, ht1⟩ := ht
    by_cases h : q1 < t
    · have HS := Lib.hid (tellK_small (bias := bias) (k := k) (q := q1) (by omega))
      have HT := Lib.hid htt
      clear htt
      go_wp2_with (first
        | (go_at_call 48; refine (thr_any k bias _ _ _ rfl rfl (by omega) (by omega)).mono ?_; rintro e w' ⟨rfl, rfl⟩; rw [HT.out])
        | (go_at_call 49; refine (digit_any q1 _ _ rfl (by omega)).mono ?_; rintro e w' ⟨rfl, rfl⟩)
        | (at_builtin
           refine wpList_append_own _ rfl (.tmp 36) (.tmp 39) 45 rfl w.heap.size 5 i0 _ 1 1 Tryd.underlying45 HI.out.1 HI.out.2.1 HI.out.2.2.1 HI.out.2.2.2 rfl (by decide) _ _ _ rfl (HM.out.1.alloc _) ⟨wr.heap.size, 0, none⟩ 1 1 (cellsOf [dig q1]) rfl rfl (cell_one_new _ _ _) (cellsOf_one _) ?ha ?hb ?hc ?_
           case ha => simp only [maxLen]; omega
           case hb => omega
           case hc => have := HM.out.2.size; simp; omega
           intro v' w2 hown' hgrow _))
      go_ret
      refine ⟨_, rfl, ?_⟩
      rw [← HL.out, HS.out]
      exact HM.out.push hown' hgrow
    · have HS := Lib.hid (tellK_more (bias := bias) (k := k) (q := q1) (by omega))
      rw [htt] at HS
      have HT := Lib.hid htt
      clear htt
      obtain ⟨r, hr⟩ : ∃ r, (q1 - t) % (36 - t) = r := ⟨_, rfl⟩
      obtain ⟨q2, hq2⟩ : ∃ q2, (q1 - t) / (36 - t) = q2 := ⟨_, rfl⟩
      rw [hr, hq2] at HS
      have hr0 : r < 36 - t := by rw [← hr]; exact Nat.mod_lt _ (by omega)
      have hq20 : q2 ≤ q1 - t := by rw [← hq2]; exact Nat.div_le_self _ _
      have hri : ((q1 : Int) - (t : Int)) % (36 - (t : Int)) = (r : Int) := by
        rw [← hr, Int.natCast_emod]; congr 1 <;> omega
      have hqi : ((q1 : Int) - (t : Int)) / (36 - (t : Int)) = (q2 : Int) := by
        rw [← hq2, Int.natCast_ediv]; congr 1 <;> omega
      clear hr hq2
      go_wp2_with (first
        | (go_at_call 48; refine (thr_any k bias _ _ _ rfl rfl (by omega) (by omega)).mono ?_; rintro e w' ⟨rfl, rfl⟩; rw [HT.out])
        | (go_at_call 49; refine (digit_any (t + r) _ _ (by omega) (by omega)).mono ?_; rintro e w' ⟨rfl, rfl⟩)
        | (at_builtin
           refine wpList_append_own _ rfl (.tmp 16) (.tmp 26) 45 rfl w.heap.size 5 i0 _ 1 1 Tryd.underlying45 HI.out.1 HI.out.2.1 HI.out.2.2.1 HI.out.2.2.2 rfl (by decide) _ _ _ rfl (HM.out.1.alloc _) ⟨wr.heap.size, 0, none⟩ 1 1 (cellsOf [dig (t + r)]) rfl rfl (cell_one_new _ _ _) (cellsOf_one _) ?ha ?hb ?hc ?_
           case ha => simp only [maxLen]; omega
           case hb => omega
           case hc => have := HM.out.2.size; simp; omega
           intro v' w2 hown' hgrow _))
      go_roundw
      case rel => exact ⟨q2, k + 36, l ++ [dig (t + r)], by go_num, by go_num, HM.out.push hown' hgrow, by rw [← HL.out, HS.out]; simp, by omega, by simp; omega⟩
      case measure => simp [intOf]; omega

/-- Numbers as runes. -/
def ints (l : List Nat) : List Int := l.map fun n : Nat => (n : Int)
theorem ints_length (l : List Nat) : (ints l).length = l.length := by simp [ints]
theorem ints_at (l : List Nat) (k : Nat) (h : k < l.length) : (ints l)[k]? = some ((l[k] : Nat) : Int) := by simp [ints, h]

def leastG (n m : Nat) (l : List Nat) : Nat := l.foldl (fun m c => if n ≤ c ∧ c < m then c else m) m
theorem leastG_succ (n m : Nat) (l : List Nat) (k : Nat) (h : k < l.length) : leastG n m (l.take (k + 1)) = if n ≤ l[k] ∧ l[k] < leastG n m (l.take k) then l[k] else leastG n m (l.take k) := by
  unfold leastG
  rw [List.take_succ_eq_append_getElem h, List.foldl_append]
  rfl

set_option maxHeartbeats 400000 in
theorem least_any (A : Option Addr) (l : List Nat) (cap n : Nat) (x : Int) (w : World) (hx : x = (n : Int)) (hr : Runes w A (ints l)) (hs : ∀ c ∈ l, c < 1114112) (hl : l.length ≤ 1000000) (_ : n ≤ 1114112) :
    Calls Tryd.prog 28 #[.slice A l.length cap, .int .i64 x] w fun e w' => e = .returned (.int .i64 (least l n : Int)) ∧ w = w' := by
  subst hx
  have HR := Lib.hid hr
  have HS := Lib.hid hs
  clear hr hs
  go_enter Tryd.func28, Tryd.ntmps28
  go_wp2
  go_loopw [5, 6] (fun a b wr => ∃ k m : Nat, k ≤ l.length ∧ b = .int .i64 k ∧ a = .int .i64 m ∧ wr = w ∧ m = leastG n 1114112 (l.take k) ∧ m ≤ 1114112) (fun _ b _ => l.length - (intOf b).toNat)
  case atStart => exact ⟨0, 1114112, Nat.zero_le _, rfl, rfl, rfl, rfl, Nat.le_refl _⟩
  case round =>
    obtain ⟨k, m, hk, rfl, rfl, rfl, hm, hm1⟩ := hrel
    have HM := Lib.hid hm
    clear hm
    by_cases hlt : k < l.length
    · obtain ⟨b, off, rfl, _, hc⟩ := HR.out k _ (ints_at l k hlt)
      have hc0 := HS.out l[k] (List.getElem_mem hlt)
      have HT := Lib.hid (leastG_succ n 1114112 l k hlt)
      obtain ⟨c, hce⟩ : ∃ c, l[k] = c := ⟨_, rfl⟩
      rw [hce] at hc hc0 HT
      clear hce
      rw [← HM.out] at HT
      by_cases h1 : n ≤ c
      · by_cases h2 : c < m
        · rw [if_pos ⟨h1, h2⟩] at HT
          go_wp2
          go_roundw
          case rel => exact ⟨k + 1, c, by omega, by go_num, by go_num, by first | rfl | trivial, HT.out.symm, by omega⟩
          case measure => simp [intOf]; omega
        · rw [if_neg (fun e => h2 e.2)] at HT
          go_wp2
          go_roundw
          case rel => exact ⟨k + 1, m, by omega, by go_num, by go_num, by first | rfl | trivial, HT.out.symm, by omega⟩
          case measure => simp [intOf]; omega
      · rw [if_neg (fun e => h1 e.1)] at HT
        go_wp2
        go_roundw
        case rel => exact ⟨k + 1, m, by omega, by go_num, by go_num, by first | rfl | trivial, HT.out.symm, by omega⟩
        case measure => simp [intOf]; omega
    · have HE : Hid (m = least l n) := by
        show m = least l n
        rw [HM.out, List.take_of_length_le (by omega)]
        rfl
      go_wp2
      go_ret
      exact ⟨ret_int (by rw [HE.out]), rfl⟩

theorem drop_cons (s : ByteArray) (k : Nat) (h : k < s.size) : s.data.toList.drop k = s[k]'h :: s.data.toList.drop (k + 1) := by
  rw [List.drop_eq_getElem_cons (by simpa using h)]
  rfl
theorem byte_eq {b : UInt8} {n : Nat} (hn : n < 256) : ((b.toNat : Int) == (n : Int)) = true ↔ b = UInt8.ofNat n := by
  rw [beq_iff_eq]
  constructor
  · intro h
    apply UInt8.toNat_inj.1
    have : b.toNat = n := by omega
    rw [this]
    simp
    omega
  · rintro rfl
    simp
    omega

set_option maxHeartbeats 400000 in
theorem hyphen_any (s : ByteArray) (w : World) (hs : s.size ≤ 1000000) :
    Calls Tryd.prog 38 #[.string s] w fun e w' => e = .returned (.int .i64 (hyph s.data.toList)) ∧ w = w' := by
  go_enter Tryd.func38, Tryd.ntmps38
  go_wp2
  go_loopw [3] (fun a wr => ∃ k : Nat, k ≤ s.size ∧ a = .int .i64 ((k : Int) - 1) ∧ wr = w ∧ (45 : UInt8) ∉ s.data.toList.drop k) (fun a _ => (intOf a + 1).toNat)
  case atStart => exact ⟨s.size, Nat.le_refl _, rfl, rfl, by rw [List.drop_eq_nil_of_le (by simp)]; simp⟩
  case round =>
    obtain ⟨k, hk, rfl, rfl, hm⟩ := hrel
    have HM := Lib.hid hm
    clear hm
    cases k with
    | zero =>
      have HE := Lib.hid (hyph_none (s := s.data.toList) (by simpa using HM.out))
      go_wp2
      go_ret
      exact ⟨ret_int (by rw [HE.out]), rfl⟩
    | succ k =>
      have hlt : k < s.size := by omega
      have hkk : (((k + 1 : Nat) : Int) - 1) = (k : Int) := by omega
      rw [hkk]
      clear hkk
      have hu := (s[k]'hlt).toNat_lt
      by_cases h : s[k]'hlt = 45
      · have he : (((s[k]'hlt).toNat : Int) == 45) = true := by rw [h]; rfl
        have HE : Hid (hyph s.data.toList = (k : Int)) := by
          have hsp : s.data.toList = s.data.toList.take k ++ 45 :: s.data.toList.drop (k + 1) := by
            rw [← h, ← drop_cons s k hlt, List.take_append_drop]
          show hyph s.data.toList = (k : Int)
          rw [hsp, hyph_at HM.out]
          simp
          omega
        clear h
        go_wp2
        go_ret
        exact ⟨ret_int (by rw [HE.out]), rfl⟩
      · have he : (((s[k]'hlt).toNat : Int) == 45) = false := by
          rw [Bool.eq_false_iff]
          exact fun e => h ((byte_eq (n := 45) (by omega)).1 e)
        have HE : Hid ((45 : UInt8) ∉ s.data.toList.drop k) := by
          show (45 : UInt8) ∉ s.data.toList.drop k
          rw [drop_cons s k hlt]
          simp only [List.mem_cons, not_or]
          exact ⟨fun e => h e.symm, HM.out⟩
        clear h
        go_wp2
        go_roundw
        case rel => exact ⟨k, by omega, by go_num, by first | rfl | trivial, HE.out⟩
        case measure => simp [intOf]

/-- What weighted tells: the number and the place behind it; twice 0 where something is wrong. -/
def wres (s : ByteArray) (o : Option (Nat × List UInt8)) : Nat × Nat := match o with
  | none => (0, 0)
  | some (j, r) => (j, s.size - r.length)
theorem par_nil (bias k w i : Nat) : par [] bias k w i = none := rfl
theorem par_cons (c : UInt8) (s : List UInt8) (bias k w i : Nat) : par (c :: s) bias k w i =
    if dval c.toNat < 0 then none
    else if 1099511627776 < i + (dval c.toNat).toNat * w then none
    else if (dval c.toNat).toNat < thr k bias then some (i + (dval c.toNat).toNat * w, s)
    else if 1099511627776 < w * (36 - thr k bias) then none
    else par s bias (k + 36) (w * (36 - thr k bias)) (i + (dval c.toNat).toNat * w) := rfl
theorem dval_lt (c : UInt8) : dval c.toNat < 36 := by
  by_cases h : 0 ≤ dval c.toNat
  · have := (lower_val c h).2.1
    omega
  · omega

set_option maxHeartbeats 1000000 in
set_option maxRecDepth 100000 in
theorem weighted_any (s : ByteArray) (at_ i bias : Nat) (x y z : Int) (w : World) (hx : x = (at_ : Int)) (hy : y = (i : Int)) (hz : z = (bias : Int)) (hs : s.size ≤ 100000) (hat : at_ ≤ s.size) (hi : i ≤ 1099511627776) (hb : bias ≤ 4398046511104) :
    Calls Tryd.prog 39 #[.string s, .int .i64 x, .int .i64 y, .int .i64 z] w fun e w' =>
      e = .returned (.tuple #[.int .i64 ((wres s (par (s.data.toList.drop at_) bias 36 1 i)).1 : Int), .int .i64 ((wres s (par (s.data.toList.drop at_) bias 36 1 i)).2 : Int)]) ∧ w = w' := by
  subst hx; subst hy; subst hz
  obtain ⟨P, hP⟩ : ∃ P, par (s.data.toList.drop at_) bias 36 1 i = P := ⟨_, rfl⟩
  rw [hP]
  have HP := Lib.hid hP
  clear hP
  go_enter Tryd.func39, Tryd.ntmps39
  go_wp2
  go_loopw [1, 2, 10, 11] (fun a b c d wr => ∃ p j v k : Nat, p ≤ s.size ∧ a = .int .i64 p ∧ b = .int .i64 j ∧ c = .int .i64 v ∧ d = .int .i64 k ∧ wr = w ∧ par (s.data.toList.drop p) bias k v j = P ∧ j ≤ 1099511627776 ∧ v ≤ 1099511627776 ∧ k ≤ 36 + 36 * p) (fun a _ _ _ _ => s.size - (intOf a).toNat)
  case atStart => exact ⟨at_, i, 1, 36, hat, rfl, rfl, rfl, rfl, rfl, HP.out, hi, by omega, by omega⟩
  case round =>
    obtain ⟨p, j, v, k, hp, rfl, rfl, rfl, rfl, rfl, hpar, hj, hv, hk⟩ := hrel
    by_cases hlt : p < s.size
    · rw [drop_cons s p hlt, par_cons] at hpar
      have hd36 := dval_lt (s[p]'hlt)
      have hu := (s[p]'hlt).toNat_lt
      have ht := thr_pos k bias
      obtain ⟨t, htt⟩ : ∃ t, thr k bias = t := ⟨_, rfl⟩
      rw [htt] at ht hpar
      obtain ⟨ht0, ht1⟩ := ht
      obtain ⟨g, hg⟩ : ∃ g : Int, dval ((s[p]'hlt).toNat : Int) = g := ⟨_, rfl⟩
      rw [hg] at hpar hd36
      have HT := Lib.hid htt
      have HG := Lib.hid hg
      clear htt hg
      by_cases hg0 : g < 0
      · rw [if_pos hg0] at hpar
        have HQ := Lib.hid hpar
        clear hpar
        go_wp2_with (first
          | (go_at_call 57; refine (value4_any _ _).mono ?_; rintro e w' ⟨rfl, rfl⟩; rw [HG.out])
          | (go_at_call 48; refine (thr_any k bias _ _ _ rfl rfl (by omega) (by omega)).mono ?_; rintro e w' ⟨rfl, rfl⟩; rw [HT.out]))
        go_ret2
        exact ⟨by rw [← HQ.out]; rfl, rfl⟩
      · obtain ⟨d, rfl⟩ : ∃ d : Nat, g = (d : Int) := ⟨g.toNat, by omega⟩
        rw [if_neg hg0] at hpar
        simp only [Int.toNat_natCast] at hpar
        obtain ⟨m, hm⟩ : ∃ m, d * v = m := ⟨_, rfl⟩
        have hmb : m ≤ 35 * 1099511627776 := by
          rw [← hm]
          exact Nat.mul_le_mul (by omega) hv
        have hmi : (d : Int) * (v : Int) = (m : Int) := by rw [← hm]; simp
        rw [hm] at hpar
        clear hm
        by_cases h1 : 1099511627776 < j + m
        · rw [if_pos h1] at hpar
          have HQ := Lib.hid hpar
          clear hpar
          go_wp2_with (first
            | (go_at_call 57; refine (value4_any _ _).mono ?_; rintro e w' ⟨rfl, rfl⟩; rw [HG.out])
            | (go_at_call 48; refine (thr_any k bias _ _ _ rfl rfl (by omega) (by omega)).mono ?_; rintro e w' ⟨rfl, rfl⟩; rw [HT.out]))
          go_ret2
          exact ⟨by rw [← HQ.out]; rfl, rfl⟩
        · rw [if_neg h1] at hpar
          by_cases h2 : d < t
          · rw [if_pos h2] at hpar
            have HQ := Lib.hid hpar
            clear hpar
            have hend : s.size - (s.data.toList.drop (p + 1)).length = p + 1 := by simp; omega
            have HE := Lib.hid hend
            clear hend
            go_wp2_with (first
              | (go_at_call 57; refine (value4_any _ _).mono ?_; rintro e w' ⟨rfl, rfl⟩; rw [HG.out])
              | (go_at_call 48; refine (thr_any k bias _ _ _ rfl rfl (by omega) (by omega)).mono ?_; rintro e w' ⟨rfl, rfl⟩; rw [HT.out]))
            go_ret2
            exact ⟨by rw [← HQ.out]; simp only [wres]; rw [HE.out]; simp, rfl⟩
          · rw [if_neg h2] at hpar
            obtain ⟨v2, hv2⟩ : ∃ v2, v * (36 - t) = v2 := ⟨_, rfl⟩
            have hvb : v2 ≤ 1099511627776 * 35 := by
              rw [← hv2]
              exact Nat.mul_le_mul hv (by omega)
            have hvi : (v : Int) * (36 - (t : Int)) = (v2 : Int) := by
              rw [← hv2, Int.natCast_mul]; congr 1; omega
            rw [hv2] at hpar
            clear hv2
            by_cases h3 : 1099511627776 < v2
            · rw [if_pos h3] at hpar
              have HQ := Lib.hid hpar
              clear hpar
              go_wp2_with (first
                | (go_at_call 57; refine (value4_any _ _).mono ?_; rintro e w' ⟨rfl, rfl⟩; rw [HG.out])
                | (go_at_call 48; refine (thr_any k bias _ _ _ rfl rfl (by omega) (by omega)).mono ?_; rintro e w' ⟨rfl, rfl⟩; rw [HT.out]))
              go_ret2
              exact ⟨by rw [← HQ.out]; rfl, rfl⟩
            · rw [if_neg h3] at hpar
              have HQ := Lib.hid hpar
              clear hpar
              go_wp2_with (first
                | (go_at_call 57; refine (value4_any _ _).mono ?_; rintro e w' ⟨rfl, rfl⟩; rw [HG.out])
                | (go_at_call 48; refine (thr_any k bias _ _ _ rfl rfl (by omega) (by omega)).mono ?_; rintro e w' ⟨rfl, rfl⟩; rw [HT.out]))
              go_roundw
              case rel => exact ⟨p + 1, j + m, v2, k + 36, by omega, by go_num, by go_num, by go_num, by go_num, by first | rfl | trivial, HQ.out, by omega, by omega, by omega⟩
              case measure => simp [intOf]; omega
    · have HQ : Hid (none = P) := by
        show none = P
        rw [← hpar, List.drop_eq_nil_of_le (by simp; omega)]
        rfl
      clear hpar
      go_wp2
      go_ret2
      exact ⟨by rw [← HQ.out]; rfl, rfl⟩
end Go.Proofs.YtmnpefpglpabmaaDoor

/-
  What the program's Encode and Decode of layer 4 are held against: their contracts, as hypotheses; and bounds on lengths.
-/
import Derived.Test.YtmnpefpglpabmaaNRefDec
import Derived.Test.YtmnpefpglpabmaaFSmall
namespace Go.Proofs.Ytmnpefpglpabmaa
open Go.RowKit

theorem tellK_log (bias : Nat) : ∀ (n q k : Nat), q < 10 ^ n → (tellK q bias k).length ≤ n + 1 := by
  intro n
  induction n with
  | zero =>
    intro q k h
    have ht := thr_pos k bias
    rw [tellK_small (by omega)]; simp
  | succ n ih =>
    intro q k h
    have ht := thr_pos k bias
    by_cases hq : q < thr k bias
    · rw [tellK_small hq]; simp
    · rw [tellK_more hq, List.length_cons]
      have h1 : (q - thr k bias) / (36 - thr k bias) ≤ (q - thr k bias) / 10 := Nat.div_le_div_left (by omega) (by omega)
      have h2 : (q - thr k bias) / 10 < 10 ^ n := by
        rw [Nat.pow_succ] at h
        omega
      have := ih ((q - thr k bias) / (36 - thr k bias)) (k + 36) (Nat.lt_of_le_of_lt h1 h2)
      omega
theorem tells_len (basic : Nat) (ds : List Nat) : ∀ (bias h : Nat), (∀ d ∈ ds, d < 100000000) → (tells basic ds bias h).length ≤ 9 * ds.length := by
  induction ds with
  | nil => intro bias h _; simp [tells]
  | cons d ds ih =>
    intro bias h hd
    have h1 := ih (adapt d (h + 1) (h == basic)) (h + 1) (fun x hx => hd x (List.mem_cons_of_mem _ hx))
    have h2 := tellK_log bias 8 d 36 (by have := hd d (List.mem_cons_self ..); simpa using this)
    show (tellK d bias 36 ++ _).length ≤ _
    rw [List.length_append, List.length_cons]
    omega
theorem deltas_small (ds : List Nat) : ∀ (cur : List Nat) (n i : Nat), (∀ x ∈ (runD ds cur n i).1, sc x = true) → (runD ds cur n i).1.length ≤ 60 → ∀ d ∈ ds, d < 100000000 := by
  induction ds with
  | nil => intro cur n i _ _ d hd; cases hd
  | cons d ds ih =>
    intro cur n i hs hl x hx
    have hlen : cur.length + (d :: ds).length ≤ 60 := by rw [← runD_length (d :: ds) cur n i]; exact hl
    rw [List.length_cons] at hlen
    rcases List.mem_cons.1 hx with rfl | hx
    · have hin : n + (i + x) / (cur.length + 1) ∈ (runD (x :: ds) cur n i).1 := runD_mem ds _ _ _ _ (mem_ins.2 (.inl rfl))
      have hsc := hs _ hin
      have hle : (i + x) / (cur.length + 1) ≤ 1114111 := by
        have := sc_lt hsc
        exact Nat.le_trans (Nat.le_add_left _ _) (Nat.le_of_lt_succ this)
      have hb1 : i + x < 1114112 * (cur.length + 1) := (Nat.div_lt_iff_lt_mul (by omega)).1 (by omega)
      have hb : i + x < 1114112 * 61 := Nat.lt_of_lt_of_le hb1 (Nat.mul_le_mul_left _ (by omega))
      omega
    · exact ih _ _ _ hs hl x hx
theorem penc_len {l : List Nat} (hs : ∀ x ∈ l, sc x = true) (hl : l.length ≤ 60) : (penc l).length ≤ 700 := by
  have hr := run_deltas hs
  have h1 := deltas_small (deltas l l.length 128 0 (basicOf l).length) (basicOf l) 128 0 (by rw [hr]; exact hs) (by rw [hr]; exact hl)
  have h2 := tells_len (basicOf l).length (deltas l l.length 128 0 (basicOf l).length) 72 (basicOf l).length h1
  have h3 := runD_length (deltas l l.length 128 0 (basicOf l).length) (basicOf l) 128 0
  rw [hr] at h3
  have h4 : (basicOf l).length ≤ l.length := List.length_filter_le _ _
  unfold penc
  rw [List.length_append, List.length_append, List.length_map]
  split <;> simp only [List.length_nil, List.length_cons] <;> omega
theorem pdec_length {s : List UInt8} {l : List Nat} (h : pdec s = some l) : l.length ≤ s.length := by
  have main : ∀ (f : Nat) (t : List UInt8) (cur : List Nat), (∀ x ∈ cur, x < 128) → decT f t cur 128 0 72 = some l → l.length ≤ cur.length + t.length := by
    intro f t cur hcur hd
    obtain ⟨ds, h1, h2, _⟩ := tells_decT cur.length f t cur 128 0 72 l hd (.inl ⟨rfl, rfl⟩) (fun x hx => sc_small (hcur x hx))
    have h3 := dtells_length cur.length ds 72 cur.length
    rw [← h1, List.length_map] at h3
    rw [← h2, runD_length]
    omega
  unfold pdec at h
  split at h
  · cases h
  · rename_i hany
    have hsm : ∀ b ∈ s, b.toNat < 128 := by
      intro b hb
      have := List.any_eq_false.1 (Bool.eq_false_iff.2 hany) b hb
      simp at this; omega
    split at h
    · have := main _ _ _ (fun x hx => by
        obtain ⟨y, hy, rfl⟩ := List.mem_map.1 hx
        exact hsm y (List.mem_of_mem_take hy)) h
      simp only [List.length_map, List.length_take, List.length_drop] at this
      omega
    · have := main _ _ _ (fun x hx => by cases hx) h
      simpa using this

/-- A list of numbers is scalars, as numbers; or not. -/
theorem ints_of {l : List Int} (h : ∀ c ∈ l, scal c = true) : l = ints (l.map Int.toNat) ∧ ∀ x ∈ l.map Int.toNat, sc x = true := by
  have hp : ∀ c ∈ l, ((c.toNat : Nat) : Int) = c := fun c hc => by have := (scal_iff c).1 (h c hc); omega
  refine ⟨?_, fun x hx => ?_⟩
  · unfold ints
    rw [List.map_map]
    exact ((List.map_congr_left (g := id) fun c hc => hp c hc).trans (List.map_id _)).symm
  · obtain ⟨c, hc, rfl⟩ := List.mem_map.1 hx
    rw [← sc_scal', hp c hc]
    exact h c hc

def EncOk (ln : List Nat) (w : World) (e : Ending) (w' : World) : Prop := e = .returned (.tuple #[.string ⟨(penc ln).toArray⟩, .nilIface]) ∧ Below w.heap.size w w'
def EncBad (w : World) (e : Ending) (w' : World) : Prop := ∃ cs u x, e = .returned (.tuple #[.string ⟨#[]⟩, .iface u x]) ∧ Chain w' cs (some 2) (.iface u x) ∧ Below w.heap.size w w'
def DecPostN (o : Option (List Nat)) (w : World) (e : Ending) (w' : World) : Prop := match o with
  | none => ∃ cs u x, e = .returned (.tuple #[.slice none 0 0, .iface u x]) ∧ Chain w' cs (some 2) (.iface u x) ∧ Below w.heap.size w w'
  | some l => ∃ A c, e = .returned (.tuple #[.slice A l.length c, .nilIface]) ∧ Runes w' A (ints l) ∧ l.length ≤ c ∧ Below w.heap.size w w'
/-- The program's Encode and Decode do as the document says. -/
structure PunyC : Prop where
  encOk : ∀ (A : Option Addr) (ln : List Nat) (cap : Nat) (w : World), Runes w A (ints ln) → (∀ c ∈ ln, sc c = true) → ln.length ≤ 100 → ln.length ≤ cap →
    Calls Try.prog 7 #[.slice A ln.length cap] w (EncOk ln w)
  encBad : ∀ (A : Option Addr) (l : List Int) (cap : Nat) (w : World), Runes w A l → (∀ c ∈ l, -2147483648 ≤ c ∧ c < 2147483648) → (¬ ∀ c ∈ l, scal c = true) → l.length ≤ 100 → l.length ≤ cap →
    Calls Try.prog 7 #[.slice A l.length cap] w (EncBad w)
  dec : ∀ (s : ByteArray) (w : World), s.size ≤ 800 → Calls Try.prog 9 #[.string s] w (DecPostN (pdec s.data.toList) w)
end Go.Proofs.Ytmnpefpglpabmaa

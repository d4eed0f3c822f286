/-
  What the program's Map, Compose and Fold of layer 5 are held against: their contracts, as hypotheses.
-/
import Derived.Test.YtjhppkbaidcliaaDoorKFold
import Derived.Test.YtjhppkbaidcliaaDoorApp
import Derived.Test.YtjhppkbaidcliaaDoorFIs
namespace Go.Proofs.YtjhppkbaidcliaaDoor
open Go.RowKit

theorem bnext {w a b : World} (h : Below w.heap.size w a) (k : Below a.heap.size a b) : Below w.heap.size w b := h.trans (k.mono h.size)
def Yes (w : World) (e : Ending) (w' : World) : Prop := e = .returned (.bool true) ∧ Below w.heap.size w w'
def MapOk (l : List Int) (w : World) (e : Ending) (w' : World) : Prop := ∃ A c, e = .returned (.tuple #[.slice A l.length c, .bool true]) ∧ Runes w' A l ∧ Below w.heap.size w w'
def RunesPost (l : List Int) (w : World) (e : Ending) (w' : World) : Prop := ∃ A c, e = .returned (.slice A l.length c) ∧ Runes w' A l ∧ l.length ≤ c ∧ Below w.heap.size w w'
def FoldPost (o : Option (List Int)) (w : World) (e : Ending) (w' : World) : Prop := match o with
  | none => ∃ cs u x, e = .returned (.tuple #[.slice none 0 0, .iface u x]) ∧ Chain w' cs (some 2) (.iface u x) ∧ Below w.heap.size w w'
  | some l => ∃ A c, e = .returned (.tuple #[.slice A l.length c, .nilIface]) ∧ Runes w' A l ∧ (l.length ≤ c ∧ (A = none → c = 0)) ∧ Below w.heap.size w w'
/-- The numbers of a rune. -/
def R32 (c : Int) : Prop := -2147483648 ≤ c ∧ c < 2147483648
/-- The program's Map, Compose and Fold do as the document says, in every world behind w0 (which holds the package's variables). -/
structure FoldC (w0 : World) : Prop where
  mapBad : ∀ (c : Int) (w : World), Below w0.heap.size w0 w → R32 c → Barred c → Calls Tryd.prog 9 #[.int .i32 c] w (MapBad w)
  mapGood : ∀ (c : Int) (w : World), Below w0.heap.size w0 w → R32 c → ¬ Barred c → Calls Tryd.prog 9 #[.int .i32 c] w (MapOk (mapTo c) w)
  comp : ∀ (A : Option Addr) (l : List Int) (cap : Nat) (w : World), Below w0.heap.size w0 w → Runes w A l → l.length ≤ 1000 → l.length ≤ cap → Calls Tryd.prog 15 #[.slice A l.length cap] w (RunesPost (comp l) w)
  fold : ∀ (A : Option Addr) (l : List Int) (cap : Nat) (w : World), Below w0.heap.size w0 w → (∀ c ∈ l, R32 c) → Runes w A l → l.length ≤ 500 → l.length ≤ cap → Calls Tryd.prog 12 #[.slice A l.length cap] w (FoldPost (foldL l) w)

theorem mapTo_rng {c : Int} (h : ¬ Barred c) : ∀ x ∈ mapTo c, R32 x := by
  have h0 : 0 ≤ c ∧ c ≤ 1114111 := by unfold Barred at h; omega
  intro x hx
  unfold mapTo down wide at hx
  repeat' split at hx
  all_goals simp only [List.mem_cons, or_false, List.not_mem_nil] at hx
  all_goals unfold R32; omega
theorem mapAll_rng {l m : List Int} (h : mapAll l = some m) : ∀ x ∈ m, R32 x := by
  induction l generalizing m with
  | nil => simp only [mapAll, Option.some.injEq] at h; subst h; simp
  | cons c l ih =>
    unfold mapAll at h
    split at h
    · cases h
    · rename_i hb
      obtain ⟨k, hk, rfl⟩ := Option.map_eq_some_iff.1 h
      intro x hx
      rcases List.mem_append.1 hx with hx | hx
      · exact mapTo_rng hb x hx
      · exact ih hk x hx
theorem pairs_rng : ∀ p ∈ pairs, -2147483648 ≤ p.2.2 ∧ p.2.2 < 2147483648 := by decide +kernel
theorem comp_rng : ∀ (n : Nat) (l : List Int), l.length ≤ n → (∀ x ∈ l, R32 x) → ∀ x ∈ comp l, R32 x := by
  intro n
  induction n with
  | zero => intro l h hl; rw [List.eq_nil_of_length_eq_zero (l := l) (by omega)]; simp [comp]
  | succ n ih =>
    intro l h hl
    match l, h, hl with
    | [], _, _ => simp [comp]
    | [a], _, hl => simpa [comp] using hl
    | a :: b :: t, h, hl =>
      simp only [List.length_cons] at h
      by_cases e : madeOf a b = 0
      · rw [comp_keep e]
        intro x hx
        rcases List.mem_cons.1 hx with rfl | hx
        · exact hl _ (List.mem_cons_self ..)
        · exact ih (b :: t) (by simp only [List.length_cons]; omega) (fun y hy => hl y (List.mem_cons_of_mem _ hy)) x hx
      · rw [comp_pair e]
        intro x hx
        rcases List.mem_cons.1 hx with rfl | hx
        · exact pairs_rng _ (madeIn_ne e)
        · exact ih t (by omega) (fun y hy => hl y (List.mem_cons_of_mem _ (List.mem_cons_of_mem _ hy))) x hx
theorem fold_rng {l a : List Int} (h : foldL l = some a) : ∀ x ∈ a, R32 x := by
  obtain ⟨m, hm, rfl⟩ := Option.map_eq_some_iff.1 h
  exact comp_rng m.length m (Nat.le_refl _) (mapAll_rng hm)
theorem rng_app {a b : List Int} (ha : ∀ x ∈ a, R32 x) (hb : ∀ x ∈ b, R32 x) : ∀ x ∈ a ++ b, R32 x := fun x hx => (List.mem_append.1 hx).elim (ha x) (hb x)
theorem fold_length {l a : List Int} (h : foldL l = some a) : a.length ≤ 2 * l.length := by
  obtain ⟨m, hm, rfl⟩ := Option.map_eq_some_iff.1 h
  have h1 := mapAll_length hm
  have h2 := comp_length m.length m (Nat.le_refl _)
  omega
theorem same_yes (A B : Option Addr) (a b : List Int) (m n c d : Nat) (w : World) (hm : m = a.length) (hn : n = b.length) (ha : Runes w A a) (hb : Runes w B b) (hl : a.length ≤ 5000) (h : a = b) :
    Calls Tryd.prog 11 #[.slice A m c, .slice B n d] w (Yes w) := by
  subst hm; subst hn
  exact (same_any A B a b c d w ha hb hl).mono fun _ _ ⟨he, n, hw⟩ => ⟨by rw [he, show same a b = true by simp [same, h]], by rw [hw]; exact below_drewN (Below.refl _ _) _⟩
theorem runes_new (w : World) (l : List Int) (t : TypeId) : Runes (w.alloc (.cells (l.map (Value.int .i32)).toArray t)) (some ⟨w.heap.size, 0, none⟩) l := by
  intro i c hc
  refine ⟨w.heap.size, 0, rfl, by simp, ?_⟩
  rw [World.cell?_alloc_at _ _ _ _ rfl, Nat.zero_add]
  simp [hc]
theorem fold_a : foldL [65, 769, 65313, 173] = some [225, 97] := by decide +kernel
theorem fold_b : foldL [8192] = none := by decide +kernel
theorem fold5_a {w0 : World} (C : FoldC w0) (w : World) (hw : Below w0.heap.size w0 w) : Calls Tryd.prog 12 #[.slice (some ⟨w.heap.size, 0, none⟩) 4 4] (w.alloc (.cells #[.int .i32 65, .int .i32 769, .int .i32 65313, .int .i32 173] 21)) fun e w' =>
    ∃ b off c, e = .returned (.tuple #[.slice (some ⟨b, off, none⟩) 2 c, .nilIface]) ∧ b < w'.heap.size ∧ w'.cell? ⟨b, off, none⟩ = some (.int .i32 225) ∧ w'.cell? ⟨b, off + 1, none⟩ = some (.int .i32 97) ∧ Below w.heap.size w w' := by
  refine (C.fold (some ⟨w.heap.size, 0, none⟩) [65, 769, 65313, 173] 4 _ (hw.alloc hw.size _) (by intro c hc; simp at hc; unfold R32; omega) (runes_new w [65, 769, 65313, 173] 21) (by decide) (by decide)).mono ?_
  intro e w' h
  rw [fold_a] at h
  obtain ⟨A, c, rfl, hr, _, hb⟩ := h
  obtain ⟨b, off, rfl, hlt, h0⟩ := hr 0 225 rfl
  obtain ⟨b', off', e', _, h1⟩ := hr 1 97 rfl
  cases e'
  exact ⟨b, off, c, rfl, hlt, h0, h1, bnext ((Below.refl _ _).alloc (Nat.le_refl _) _) hb⟩
theorem fold5_b {w0 : World} (C : FoldC w0) (w : World) (hw : Below w0.heap.size w0 w) : Calls Tryd.prog 12 #[.slice (some ⟨w.heap.size, 0, none⟩) 1 1] (w.alloc (.cells #[.int .i32 8192] 21)) fun e w' =>
    ∃ cs u x, e = .returned (.tuple #[.slice none 0 0, .iface u x]) ∧ Chain w' cs (some 2) (.iface u x) ∧ Below w.heap.size w w' := by
  refine (C.fold (some ⟨w.heap.size, 0, none⟩) [8192] 1 _ (hw.alloc hw.size _) (by intro c hc; simp at hc; unfold R32; omega) (runes_new w [8192] 21) (by decide) (by decide)).mono ?_
  intro e w' h
  rw [fold_b] at h
  obtain ⟨cs, u, x, rfl, hc, hb⟩ := h
  exact ⟨cs, u, x, rfl, hc, bnext ((Below.refl _ _).alloc (Nat.le_refl _) _) hb⟩
theorem map5_a {w0 : World} (C : FoldC w0) (w : World) (hw : Below w0.heap.size w0 w) : Calls Tryd.prog 9 #[.int .i32 128] w (MapBad w) := C.mapBad 128 w hw (by unfold R32; omega) (by decide)

set_option maxHeartbeats 1000000 in
set_option maxRecDepth 100000 in
theorem awake_any {w : World} (C : FoldC w) : Calls Tryd.prog 8 #[] w (Yes w) := by
  have HC := Lib.hid C
  clear C
  go_enter Tryd.func8, Tryd.ntmps8
  go_wp2_with (first
    | (go_at_call 12; (with_reducible refine (fold5_a HC.out _ (Below.refl _ _)).mono ?_); rintro e w1 ⟨b, off, c, rfl, hlt, h0, h1, hb⟩; have HB := Lib.hid hb; clear hb)
    | (go_at_call 9; (with_reducible refine (map5_a HC.out _ HB.out).mono ?_); rintro e w2 ⟨rfl, hb⟩; have h2 := (hb.cell (p := ⟨b, off, none⟩) hlt).trans h0; have h3 := (hb.cell (p := ⟨b, off + 1, none⟩) hlt).trans h1; have hlt2 := Nat.lt_of_lt_of_le hlt hb.size; have HB := Lib.hid (bnext HB.out hb); clear hb h0 h1)
    | (go_at_call 12; (with_reducible refine (fold5_b HC.out _ HB.out).mono ?_); rintro e w3 ⟨cs, u, x, rfl, hch, hb⟩; have h4 := (hb.cell (p := ⟨b, off, none⟩) hlt2).trans h2; have h5 := (hb.cell (p := ⟨b, off + 1, none⟩) hlt2).trans h3; have HCh := Lib.hid hch; have HB := Lib.hid (bnext HB.out hb); clear hb hch h2 h3)
    | (go_at_call 17; refine (is_any _ 2 2 u x _ HCh.out).mono ?_; rintro e w' ⟨rfl, rfl⟩))
  go_ret
  exact ⟨rfl, HB.out⟩
end Go.Proofs.YtjhppkbaidcliaaDoor

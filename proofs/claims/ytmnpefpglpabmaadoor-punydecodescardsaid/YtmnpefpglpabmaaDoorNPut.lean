/-
  The document's put: a list with a code point at a place.
-/
import Derived.Test.YtmnpefpglpabmaaDoorNTell
import Derived.Test.YtmnpefpglpabmaaDoorApp
namespace Go.Proofs.YtmnpefpglpabmaaDoor
open Go.RowKit

theorem ints_ins (l : List Nat) (p n : Nat) : ints (ins l p n) = (ints l).take p ++ [(n : Int)] ++ (ints l).drop p := by
  simp [ints, ins, List.map_take, List.map_drop]

def PutPost (l : List Int) (w : World) (e : Ending) (w' : World) : Prop := ∃ v, e = .returned v ∧ Made w w' v l

set_option maxHeartbeats 1000000 in
set_option maxRecDepth 100000 in
theorem put_at (b off : Nat) (l : List Int) (cap p : Nat) (c x : Int) (w : World) (hx : x = (p : Int)) (hr : Runes w (some ⟨b, off, none⟩) l) (hl : l.length ≤ 1000) (hcap : l.length ≤ cap) (hp : p ≤ l.length) :
    Calls Tryd.prog 40 #[.slice (some ⟨b, off, none⟩) l.length cap, .int .i64 x, .int .i32 c] w (PutPost (l.take p ++ [c] ++ l.drop p) w) := by
  subst hx
  have HR := Lib.hid hr
  clear hr
  obtain ⟨L, hL⟩ : ∃ L, l.take p ++ [c] ++ l.drop p = L := ⟨_, rfl⟩
  rw [hL]
  have HL := Lib.hid hL
  clear hL
  go_enter Tryd.func40, Tryd.ntmps40
  have hb0 : Below w.heap.size w (w.alloc (.cells #[] 21)) := (Below.refl _ _).alloc (Nat.le_refl _) _
  have HB0 := Lib.hid hb0
  clear hb0
  go_wp2_with (first
    | (at_builtin
       refine append_from rfl (.tmp 8) (.tmp 11) rfl w.heap.size _ [] (some ⟨b, off, none⟩) p cap (l.take p) rfl rfl (rowN_new w) ((HR.out.below HB0.out).take p) (by simp; omega) (by simp) (by simp; omega) (by simp) ?_
       intro v1 w1 hr1 hb1
       have HR1 := Lib.hid hr1
       have HB1 := Lib.hid (HB0.out.trans hb1)
       clear hr1 hb1)
    | (at_builtin
       refine append_from rfl (.tmp 13) (.tmp 15) rfl w.heap.size v1 _ (some ⟨w1.heap.size, 0, none⟩) 1 1 [c] rfl rfl (HR1.out.below ((Below.refl _ _).alloc (Nat.le_refl _) _)) (runes_one w1 c) rfl (by simp) ?q1 ?q2 ?_
       case q1 => simp; omega
       case q2 => have := HB1.out.size; simp; omega
       intro v2 w2 hr2 hb2
       have HR2 := Lib.hid hr2
       have HB2 := Lib.hid (HB1.out.trans (((Below.refl _ _).alloc HB1.out.size _).trans hb2))
       clear hr2 hb2)
    | (at_builtin
       refine append_from rfl (.tmp 17) (.tmp 20) rfl w.heap.size v2 _ (if cap = p then some ⟨b, off, none⟩ else some ⟨b, off + p, none⟩) (l.length - p) (cap - p) (l.drop p) rfl rfl HR2.out (Runes.tail (HR.out.below HB2.out) hcap) (by simp) (fun e => by split at e <;> cases e) ?q3 HB2.out.size ?_
       case q3 => simp; omega
       intro v3 w3 hr3 hb3
       have HR3 := Lib.hid hr3
       have HB3 := Lib.hid (HB2.out.trans hb3)
       clear hr3 hb3))
  all_goals
    go_ret
    exact ⟨_, rfl, HL.out ▸ HR3.out, HB3.out⟩

set_option maxHeartbeats 1000000 in
set_option maxRecDepth 100000 in
theorem put_nil (c x : Int) (w : World) (hx : x = 0) :
    Calls Tryd.prog 40 #[.slice none 0 0, .int .i64 x, .int .i32 c] w (PutPost [c] w) := by
  subst hx
  go_enter Tryd.func40, Tryd.ntmps40
  have hb0 : Below w.heap.size w (w.alloc (.cells #[] 21)) := (Below.refl _ _).alloc (Nat.le_refl _) _
  have HB0 := Lib.hid hb0
  clear hb0
  go_wp2_with (first
    | (at_builtin
       refine append_from rfl (.tmp 8) (.tmp 11) rfl w.heap.size _ [] none 0 0 [] rfl rfl (rowN_new w) Runes.nil_ rfl (fun _ => rfl) (by simp) (by simp) ?_
       intro v1 w1 hr1 hb1
       have HR1 := Lib.hid hr1
       have HB1 := Lib.hid (HB0.out.trans hb1)
       clear hr1 hb1)
    | (at_builtin
       refine append_from rfl (.tmp 13) (.tmp 15) rfl w.heap.size v1 _ (some ⟨w1.heap.size, 0, none⟩) 1 1 [c] rfl rfl (HR1.out.below ((Below.refl _ _).alloc (Nat.le_refl _) _)) (runes_one w1 c) rfl (by simp) ?q1 ?q2 ?_
       case q1 => simp
       case q2 => have := HB1.out.size; simp; omega
       intro v2 w2 hr2 hb2
       have HR2 := Lib.hid hr2
       have HB2 := Lib.hid (HB1.out.trans (((Below.refl _ _).alloc HB1.out.size _).trans hb2))
       clear hr2 hb2)
    | (at_builtin
       refine append_from rfl (.tmp 17) (.tmp 20) rfl w.heap.size v2 _ none 0 0 [] rfl rfl HR2.out Runes.nil_ rfl (fun _ => rfl) (by simp) HB2.out.size ?_
       intro v3 w3 hr3 hb3
       have HR3 := Lib.hid hr3
       have HB3 := Lib.hid (HB2.out.trans hb3)
       clear hr3 hb3))
  go_ret
  exact ⟨_, rfl, HR3.out, HB3.out⟩

/-- put, of a list that the call made. -/
theorem put_any (W w : World) (v : Value) (l : List Nat) (p n : Nat) (x c : Int) (hx : x = (p : Int)) (hc : c = (n : Int)) (hm : Made W w v (ints l)) (hl : l.length ≤ 1000) (hp : p ≤ l.length) :
    Calls Tryd.prog 40 #[v, .int .i64 x, .int .i32 c] w (PutPost (ints (ins l p n)) w) := by
  subst hc
  have hrow := hm.1
  obtain ⟨A, cap, rfl, hr⟩ := hm.runes
  rw [ints_ins]
  cases A with
  | none =>
    cases l with
    | cons y l => obtain ⟨b, off, e, _⟩ := hr 0 (y : Int) (by simp [ints]); cases e
    | nil =>
      have hcap : cap = 0 := by
        rcases hrow.2 with ⟨h0, _⟩ | ⟨g, cap', cur, h0, _⟩
        · cases h0; rfl
        · cases h0
      subst hcap
      simp at hp
      subst hp
      exact put_nil _ _ _ hx
  | some ad =>
    have hcap : (ints l).length ≤ cap ∧ ∃ g, ad = ⟨g, 0, none⟩ := by
      rcases hrow.2 with ⟨h0, _⟩ | ⟨g, cap', cur, h0, _, _, hle, _⟩
      · cases h0
      · cases h0; exact ⟨hle, g, rfl⟩
    obtain ⟨hcap, g, rfl⟩ := hcap
    exact put_at g 0 (ints l) cap p n x w hx hr (by rw [ints_length]; omega) hcap (by rw [ints_length]; exact hp)
end Go.Proofs.YtmnpefpglpabmaaDoor

/-
  In this text, one behind the other: RecTextM, RecCon.
-/
import Derived.BigQuiet
import Derived.Deep.AppendLies
import Derived.Deep.Light
import Derived.Deep.LoopGhost
import Derived.Deep.QuietTactic
import Derived.Deep.RegionHeld3
import Derived.Deep.RegionWith
import Derived.IntWalk
import Derived.LaidEql
import Derived.Laws.AppendOwnNone
import Derived.Laws.BitsLemmas
import Derived.Laws.Cover4
import Derived.Laws.Rows
import Derived.Lib.Hide
import Derived.Maps.AppendAt
import Derived.RowKitTokens
import Derived.Stop.Asserts
import Derived.WalkKit
import Derived.WalkLawsBesides
import Derived.WalkSpells
import Derived.Test.YtliklhldlofnjaaDoorRows
import Derived.Test.YtliklhldlofnjaaDoorG9
/-
  The document's Text of layer 12, by its contract (written by mkrec.py).
-/
namespace Go.Proofs.YtliklhldlofnjaaDoor
open Go.RowKit

theorem path12_len {u : Url12} (h : Wee12 u) : (path12 u).length ≤ 60000 := by
  unfold path12
  have h1 := h.len
  split
  · cases hp : u.path with
    | nil => simp
    | cons p ps => have := h.segs p (by rw [hp]; exact List.mem_cons_self ..); simp; omega
  · have := txt11_len u.path (fun p hp => Nat.le_trans (h.segs p hp) (by omega))
    have h2 : 1001 * u.path.length ≤ 1001 * 50 := Nat.mul_le_mul_left _ h1
    omega
theorem emp12 {s : ByteArray} (h : (s.toList == []) = true) : s = ⟨#[]⟩ := by
  rw [beq_iff_eq, ByteArray.toList_eq] at h
  exact ByteArray.ext (Array.toList_inj.1 h)
theorem ful12 {s : ByteArray} (h : (s.toList == []) = false) : s ≠ ⟨#[]⟩ := by
  rintro rfl
  rw [ByteArray.toList_eq] at h
  exact absurd h (by decide)
theorem emp_or (s : ByteArray) : ((s.toList == []) = true ∧ s = ⟨#[]⟩) ∨ ((s.toList == []) = false ∧ s ≠ ⟨#[]⟩) := by
  cases h : (s.toList == []) with
  | true => exact .inl ⟨rfl, emp12 h⟩
  | false => exact .inr ⟨rfl, ful12 h⟩
end Go.Proofs.YtliklhldlofnjaaDoor

/-
  What the program's New, Text, Path and Same of layer 12 are held against: their contracts, as hypotheses (written by mkrec.py).
-/
namespace Go.Proofs.YtliklhldlofnjaaDoor
open Go.RowKit

def Yes12 (w : World) (e : Ending) (w' : World) : Prop := e = .returned (.bool true) ∧ Below w.heap.size w w'
/-- A URL as a value in a world. -/
structure At12 (w : World) (u : Url12) (A : Option Addr) (n c : Nat) : Prop where
  segs : Segs w A u.path
  len : u.path.length = n
  cap : n ≤ c
  nil : A = none → c = 0
  wee : Wee12 u
theorem At12.below {w w' : World} {u : Url12} {A : Option Addr} {n c : Nat} (h : At12 w u A n c) (hb : Below w.heap.size w w') : At12 w' u A n c := ⟨h.segs.below hb, h.len, h.cap, h.nil, h.wee⟩
/-- The program's functions do as the document says, in every world behind w0. -/
structure RecC (w0 : World) : Prop where
  new : ∀ (s : ByteArray) (w : World), Below w0.heap.size w0 w → s.size ≤ 200 → Calls Tryd.prog 16 #[.string s] w fun e w' => e = .returned (.agg #[.string s, .string ⟨#[]⟩, .string ⟨#[]⟩, .int .i64 0, .string ⟨#[]⟩, .int .u32 0, .int .u16 0, .int .u16 0, .int .u16 0, .int .u16 0, .int .u16 0, .int .u16 0, .int .u16 0, .int .u16 0, .int .i64 (-1), .bool false, .slice none 0 0, .bool false, .string ⟨#[]⟩, .bool false, .string ⟨#[]⟩]) ∧ Below w.heap.size w w'
  text : ∀ (u : Url12) (bare : Bool) (A : Option Addr) (n c : Nat) (w : World), Below w0.heap.size w0 w → At12 w u A n c → Calls Tryd.prog 10 #[.agg #[.string u.scheme, .string u.user, .string u.pass, .int .i64 u.kind, .string u.name, .int .u32 (u.v4 : Int), .int .u16 (u.a0 : Int), .int .u16 (u.a1 : Int), .int .u16 (u.a2 : Int), .int .u16 (u.a3 : Int), .int .u16 (u.a4 : Int), .int .u16 (u.a5 : Int), .int .u16 (u.a6 : Int), .int .u16 (u.a7 : Int), .int .i64 u.port, .bool u.opaq, .slice A n c, .bool u.hasQ, .string u.query, .bool u.hasF, .string u.frag], .bool bare] w (Txt12 (text12 u bare) w)
  path : ∀ (u : Url12) (A : Option Addr) (n c : Nat) (w : World), Below w0.heap.size w0 w → At12 w u A n c → Calls Tryd.prog 12 #[.agg #[.string u.scheme, .string u.user, .string u.pass, .int .i64 u.kind, .string u.name, .int .u32 (u.v4 : Int), .int .u16 (u.a0 : Int), .int .u16 (u.a1 : Int), .int .u16 (u.a2 : Int), .int .u16 (u.a3 : Int), .int .u16 (u.a4 : Int), .int .u16 (u.a5 : Int), .int .u16 (u.a6 : Int), .int .u16 (u.a7 : Int), .int .i64 u.port, .bool u.opaq, .slice A n c, .bool u.hasQ, .string u.query, .bool u.hasF, .string u.frag]] w (Txt12 (path12 u) w)
  same : ∀ (u v : Url12) (A B : Option Addr) (n m c d : Nat) (w : World), Below w0.heap.size w0 w → At12 w u A n c → At12 w v B m d → Calls Tryd.prog 14 #[.agg #[.string u.scheme, .string u.user, .string u.pass, .int .i64 u.kind, .string u.name, .int .u32 (u.v4 : Int), .int .u16 (u.a0 : Int), .int .u16 (u.a1 : Int), .int .u16 (u.a2 : Int), .int .u16 (u.a3 : Int), .int .u16 (u.a4 : Int), .int .u16 (u.a5 : Int), .int .u16 (u.a6 : Int), .int .u16 (u.a7 : Int), .int .i64 u.port, .bool u.opaq, .slice A n c, .bool u.hasQ, .string u.query, .bool u.hasF, .string u.frag], .agg #[.string v.scheme, .string v.user, .string v.pass, .int .i64 v.kind, .string v.name, .int .u32 (v.v4 : Int), .int .u16 (v.a0 : Int), .int .u16 (v.a1 : Int), .int .u16 (v.a2 : Int), .int .u16 (v.a3 : Int), .int .u16 (v.a4 : Int), .int .u16 (v.a5 : Int), .int .u16 (v.a6 : Int), .int .u16 (v.a7 : Int), .int .i64 v.port, .bool v.opaq, .slice B m d, .bool v.hasQ, .string v.query, .bool v.hasF, .string v.frag]] w fun e w' => e = .returned (.bool (same12 u v)) ∧ Below w.heap.size w w'
theorem RecC.behind {w0 w : World} (C : RecC w0) (h : Below w0.heap.size w0 w) : RecC w :=
  ⟨fun s x hx => C.new s x (bn12 h hx), fun u b A n c x hx => C.text u b A n c x (bn12 h hx), fun u A n c x hx => C.path u A n c x (bn12 h hx), fun u v A B n m c d x hx => C.same u v A B n m c d x (bn12 h hx)⟩
theorem ctext12 {w0 : World} (C : RecC w0) {u : Url12} {bare : Bool} {t : ByteArray} (ht : txt10 (text12 u bare) = t) {A : Option Addr} {n c : Nat} (w : World) (hb : Below w0.heap.size w0 w) (h : At12 w u A n c) :
    Calls Tryd.prog 10 #[.agg #[.string u.scheme, .string u.user, .string u.pass, .int .i64 u.kind, .string u.name, .int .u32 (u.v4 : Int), .int .u16 (u.a0 : Int), .int .u16 (u.a1 : Int), .int .u16 (u.a2 : Int), .int .u16 (u.a3 : Int), .int .u16 (u.a4 : Int), .int .u16 (u.a5 : Int), .int .u16 (u.a6 : Int), .int .u16 (u.a7 : Int), .int .i64 u.port, .bool u.opaq, .slice A n c, .bool u.hasQ, .string u.query, .bool u.hasF, .string u.frag], .bool bare] w fun e w' => e = .returned (.string t) ∧ Below w.heap.size w w' := ht ▸ C.text u bare A n c w hb h
theorem cpath12 {w0 : World} (C : RecC w0) {u : Url12} {t : ByteArray} (ht : txt10 (path12 u) = t) {A : Option Addr} {n c : Nat} (w : World) (hb : Below w0.heap.size w0 w) (h : At12 w u A n c) :
    Calls Tryd.prog 12 #[.agg #[.string u.scheme, .string u.user, .string u.pass, .int .i64 u.kind, .string u.name, .int .u32 (u.v4 : Int), .int .u16 (u.a0 : Int), .int .u16 (u.a1 : Int), .int .u16 (u.a2 : Int), .int .u16 (u.a3 : Int), .int .u16 (u.a4 : Int), .int .u16 (u.a5 : Int), .int .u16 (u.a6 : Int), .int .u16 (u.a7 : Int), .int .i64 u.port, .bool u.opaq, .slice A n c, .bool u.hasQ, .string u.query, .bool u.hasF, .string u.frag]] w fun e w' => e = .returned (.string t) ∧ Below w.heap.size w w' := ht ▸ C.path u A n c w hb h
theorem csame12 {w0 : World} (C : RecC w0) {u v : Url12} {b : Bool} (hs : same12 u v = b) {A B : Option Addr} {n m c d : Nat} (w : World) (hb : Below w0.heap.size w0 w) (h : At12 w u A n c) (g : At12 w v B m d) :
    Calls Tryd.prog 14 #[.agg #[.string u.scheme, .string u.user, .string u.pass, .int .i64 u.kind, .string u.name, .int .u32 (u.v4 : Int), .int .u16 (u.a0 : Int), .int .u16 (u.a1 : Int), .int .u16 (u.a2 : Int), .int .u16 (u.a3 : Int), .int .u16 (u.a4 : Int), .int .u16 (u.a5 : Int), .int .u16 (u.a6 : Int), .int .u16 (u.a7 : Int), .int .i64 u.port, .bool u.opaq, .slice A n c, .bool u.hasQ, .string u.query, .bool u.hasF, .string u.frag], .agg #[.string v.scheme, .string v.user, .string v.pass, .int .i64 v.kind, .string v.name, .int .u32 (v.v4 : Int), .int .u16 (v.a0 : Int), .int .u16 (v.a1 : Int), .int .u16 (v.a2 : Int), .int .u16 (v.a3 : Int), .int .u16 (v.a4 : Int), .int .u16 (v.a5 : Int), .int .u16 (v.a6 : Int), .int .u16 (v.a7 : Int), .int .i64 v.port, .bool v.opaq, .slice B m d, .bool v.hasQ, .string v.query, .bool v.hasF, .string v.frag]] w fun e w' => e = .returned (.bool b) ∧ Below w.heap.size w w' := hs ▸ C.same u v A B n m c d w hb h g
end Go.Proofs.YtliklhldlofnjaaDoor

/-
  In this text, one behind the other: GText, RecMath, RecPath.
-/
import Derived.BigQuiet
import Derived.Deep.AppendLies
import Derived.Deep.Light
import Derived.Deep.LoopGhost
import Derived.Deep.QuietTactic
import Derived.Deep.RegionHeld3
import Derived.Deep.RegionWith
import Derived.IntWalk
import Derived.LaidEql
import Derived.Laws.AppendOwnNone
import Derived.Laws.BitsLemmas
import Derived.Laws.Cover4
import Derived.Lib.Hide
import Derived.Maps.AppendAt
import Derived.RowKitTokens
import Derived.Stop.Asserts
import Derived.WalkKit
import Derived.WalkLawsBesides
import Derived.WalkSpells
import Derived.Test.YtliklhldlofnjaaDoorRows
import Derived.Test.YtliklhldlofnjaaDoorG1
import Derived.Test.YtliklhldlofnjaaDoorG3
import Derived.Test.YtliklhldlofnjaaDoorG5
import Derived.Test.YtliklhldlofnjaaDoorG7
import Derived.Test.YtliklhldlofnjaaDoorG8
import Derived.Test.YtliklhldlofnjaaDoorG6
/-
  The document's Text of layer 9, by its contract.
-/
namespace Go.Proofs.YtliklhldlofnjaaDoor
open Go.RowKit

/-- A host as a text, whatever its kind. -/
def textK (k : Int) (nm : List UInt8) (v4 : Nat) (v6 : List Nat) : List UInt8 :=
  if k = 2 ∨ k = 5 then nm else if k = 3 then text7 v4 else if k = 4 then 91 :: (text8 v6 ++ [93]) else []
end Go.Proofs.YtliklhldlofnjaaDoor

/-
  URLs as texts: the document of layer 12 as plain functions (written by mkrec.py).
-/
namespace Go.Proofs.YtliklhldlofnjaaDoor
open Go.RowKit

/-- A URL; its path as segments. -/
structure Url12 where
  scheme : ByteArray
  user : ByteArray
  pass : ByteArray
  kind : Int
  name : ByteArray
  v4 : Nat
  a0 : Nat
  a1 : Nat
  a2 : Nat
  a3 : Nat
  a4 : Nat
  a5 : Nat
  a6 : Nat
  a7 : Nat
  port : Int
  opaq : Bool
  path : List Seg
  hasQ : Bool
  query : ByteArray
  hasF : Bool
  frag : ByteArray
def Url12.v6 (u : Url12) : List Nat := [u.a0, u.a1, u.a2, u.a3, u.a4, u.a5, u.a6, u.a7]
def path12 (u : Url12) : List UInt8 := if u.opaq then u.path.headD [] else txt11 u.path
def cred12 (u : Url12) : List UInt8 := if u.user = ⟨#[]⟩ ∧ u.pass = ⟨#[]⟩ then [] else u.user.data.toList ++ ((if u.pass = ⟨#[]⟩ then [] else 58 :: u.pass.data.toList) ++ [64])
def port12 (u : Url12) : List UInt8 := if 0 ≤ u.port then 58 :: dcm10 u.port.toNat else []
def dotted12 (u : Url12) : Bool := !u.opaq && decide (1 < u.path.length) && decide (u.path.headD [] = [])
def front12 (u : Url12) : List UInt8 := if u.kind ≠ 0 then 47 :: 47 :: (cred12 u ++ (textK u.kind u.name.data.toList u.v4 u.v6 ++ port12 u)) else if dotted12 u then [47, 46] else []
def query12 (u : Url12) : List UInt8 := if u.hasQ then 63 :: u.query.data.toList else []
def frag12 (u : Url12) (bare : Bool) : List UInt8 := if !bare && u.hasF then 35 :: u.frag.data.toList else []
/-- P12.2. -/
def text12 (u : Url12) (bare : Bool) : List UInt8 := u.scheme.data.toList ++ 58 :: (front12 u ++ (path12 u ++ (query12 u ++ frag12 u bare)))
/-- P12.3. -/
def Same12 (u v : Url12) : Prop := u.scheme = v.scheme ∧ u.user = v.user ∧ u.pass = v.pass ∧ (u.kind = v.kind ∧ u.name = v.name ∧ u.v4 = v.v4 ∧ u.a0 = v.a0 ∧ u.a1 = v.a1 ∧ u.a2 = v.a2 ∧ u.a3 = v.a3 ∧ u.a4 = v.a4 ∧ u.a5 = v.a5 ∧ u.a6 = v.a6 ∧ u.a7 = v.a7) ∧ u.port = v.port ∧ u.opaq = v.opaq ∧ u.path = v.path ∧ u.hasQ = v.hasQ ∧ u.query = v.query ∧ u.hasF = v.hasF ∧ u.frag = v.frag
instance (u v : Url12) : Decidable (Same12 u v) := by unfold Same12; infer_instance
def same12 (u v : Url12) : Bool := decide (Same12 u v)
theorem Same12.of (u : Url12) : Same12 u u := ⟨rfl, rfl, rfl, ⟨rfl, rfl, rfl, rfl, rfl, rfl, rfl, rfl, rfl, rfl, rfl⟩, rfl, rfl, rfl, rfl, rfl, rfl, rfl⟩
theorem same12_self (u : Url12) : same12 u u = true := decide_eq_true (Same12.of u)
/-- What a URL's numbers are. -/
structure Nums12 (u : Url12) : Prop where
  k0 : -9223372036854775808 ≤ u.kind
  k1 : u.kind ≤ 9223372036854775807
  p0 : -9223372036854775808 ≤ u.port
  p1 : u.port ≤ 9223372036854775807
  v4 : u.v4 < 4294967296
  v6 : ∀ n ∈ u.v6, n < 65536
/-- A URL of whose texts no one is great. -/
structure Wee12 (u : Url12) : Prop where
  nums : Nums12 u
  len : u.path.length ≤ 50
  segs : ∀ p ∈ u.path, p.length ≤ 200
  scheme : u.scheme.size ≤ 200
  user : u.user.size ≤ 200
  pass : u.pass.size ≤ 200
  name : u.name.size ≤ 200
  query : u.query.size ≤ 200
  frag : u.frag.size ≤ 200
theorem textK_len {k : Int} {nm : List UInt8} {v4 : Nat} {l : List Nat} (hn : nm.length ≤ 200) (h4 : v4 < 4294967296) (hl : l.length = 8) (h6 : ∀ n ∈ l, n < 65536) : (textK k nm v4 l).length ≤ 200 := by
  unfold textK
  split
  · exact hn
  · split
    · have := (text7_len h4).2; omega
    · split
      · have := (text8_len hl h6).2
        simp
        omega
      · simp
end Go.Proofs.YtliklhldlofnjaaDoor

/-
  The document's Path of layer 12, by its contract (written by mkrec.py).
-/
namespace Go.Proofs.YtliklhldlofnjaaDoor
open Go.RowKit

theorem wee_path {u : Url12} (h : Wee12 u) : Wee u.path := ⟨by have := h.len; omega, fun p hp => Nat.le_trans (h.segs p hp) (by omega)⟩
/-- A segment's cell. -/
theorem Segs.first {w : World} {A : Option Addr} {p : Seg} {ps : List Seg} (h : Segs w A (p :: ps)) : ∃ b off, A = some ⟨b, off, none⟩ ∧ b < w.heap.size ∧ ∀ w', Below w.heap.size w w' → w'.cell? ⟨b, off, none⟩ = some (.string (txt10 p)) := by
  obtain ⟨b, off, rfl, hb, hc⟩ := h.at (i := 0) (p := p) rfl
  rw [Nat.add_zero] at hc
  exact ⟨b, off, rfl, hb, fun w' hw => (hw.cell (p := ⟨b, off, none⟩) hb).trans hc⟩
def Txt12 (l : List UInt8) (w : World) (e : Ending) (w' : World) : Prop := e = .returned (.string (txt10 l)) ∧ Below w.heap.size w w'
theorem bn12 {w a b : World} (h : Below w.heap.size w a) (k : Below a.heap.size a b) : Below w.heap.size w b := h.trans (k.mono h.size)
theorem bel12 (w : World) (o : Obj) : Below w.heap.size w (w.alloc o) := (Below.refl _ w).alloc (Nat.le_refl _) o
end Go.Proofs.YtliklhldlofnjaaDoor

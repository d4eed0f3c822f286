/-
  In this text, one behind the other: GText, RecMath, RecPath, RecFew.
-/
import Derived.BigQuiet
import Derived.Deep.AppendLies
import Derived.Deep.Light
import Derived.Deep.LoopGhost
import Derived.Deep.QuietTactic
import Derived.Deep.RegionHeld3
import Derived.Deep.RegionWith
import Derived.IntWalk
import Derived.LaidEql
import Derived.Laws.AppendOwnNone
import Derived.Laws.BitsLemmas
import Derived.Laws.Cover4
import Derived.Lib.Hide
import Derived.Maps.AppendAt
import Derived.RowKitTokens
import Derived.Stop.Asserts
import Derived.WalkKit
import Derived.WalkLawsBesides
import Derived.WalkSpells
import Derived.Test.YtliklhldlofnjaaDoorRows
import Derived.Test.YtliklhldlofnjaaDoorG1
import Derived.Test.YtliklhldlofnjaaDoorG3
import Derived.Test.YtliklhldlofnjaaDoorG5
import Derived.Test.YtliklhldlofnjaaDoorG7
import Derived.Test.YtliklhldlofnjaaDoorG8
import Derived.Test.YtliklhldlofnjaaDoorG6
/-
  The document's Text of layer 9, by its contract.
-/
namespace Go.Proofs.YtliklhldlofnjaaDoor
open Go.RowKit

/-- A host as a text, whatever its kind. -/
def textK (k : Int) (nm : List UInt8) (v4 : Nat) (v6 : List Nat) : List UInt8 :=
  if k = 2 ∨ k = 5 then nm else if k = 3 then text7 v4 else if k = 4 then 91 :: (text8 v6 ++ [93]) else []
end Go.Proofs.YtliklhldlofnjaaDoor

/-
  URLs as texts: the document of layer 12 as plain functions (written by mkrec.py).
-/
namespace Go.Proofs.YtliklhldlofnjaaDoor
open Go.RowKit

/-- A URL; its path as segments. -/
structure Url12 where
  scheme : ByteArray
  user : ByteArray
  pass : ByteArray
  kind : Int
  name : ByteArray
  v4 : Nat
  a0 : Nat
  a1 : Nat
  a2 : Nat
  a3 : Nat
  a4 : Nat
  a5 : Nat
  a6 : Nat
  a7 : Nat
  port : Int
  opaq : Bool
  path : List Seg
  hasQ : Bool
  query : ByteArray
  hasF : Bool
  frag : ByteArray
def Url12.v6 (u : Url12) : List Nat := [u.a0, u.a1, u.a2, u.a3, u.a4, u.a5, u.a6, u.a7]
def path12 (u : Url12) : List UInt8 := if u.opaq then u.path.headD [] else txt11 u.path
def cred12 (u : Url12) : List UInt8 := if u.user = ⟨#[]⟩ ∧ u.pass = ⟨#[]⟩ then [] else u.user.data.toList ++ ((if u.pass = ⟨#[]⟩ then [] else 58 :: u.pass.data.toList) ++ [64])
def port12 (u : Url12) : List UInt8 := if 0 ≤ u.port then 58 :: dcm10 u.port.toNat else []
def dotted12 (u : Url12) : Bool := !u.opaq && decide (1 < u.path.length) && decide (u.path.headD [] = [])
def front12 (u : Url12) : List UInt8 := if u.kind ≠ 0 then 47 :: 47 :: (cred12 u ++ (textK u.kind u.name.data.toList u.v4 u.v6 ++ port12 u)) else if dotted12 u then [47, 46] else []
def query12 (u : Url12) : List UInt8 := if u.hasQ then 63 :: u.query.data.toList else []
def frag12 (u : Url12) (bare : Bool) : List UInt8 := if !bare && u.hasF then 35 :: u.frag.data.toList else []
/-- P12.2. -/
def text12 (u : Url12) (bare : Bool) : List UInt8 := u.scheme.data.toList ++ 58 :: (front12 u ++ (path12 u ++ (query12 u ++ frag12 u bare)))
/-- P12.3. -/
def Same12 (u v : Url12) : Prop := u.scheme = v.scheme ∧ u.user = v.user ∧ u.pass = v.pass ∧ (u.kind = v.kind ∧ u.name = v.name ∧ u.v4 = v.v4 ∧ u.a0 = v.a0 ∧ u.a1 = v.a1 ∧ u.a2 = v.a2 ∧ u.a3 = v.a3 ∧ u.a4 = v.a4 ∧ u.a5 = v.a5 ∧ u.a6 = v.a6 ∧ u.a7 = v.a7) ∧ u.port = v.port ∧ u.opaq = v.opaq ∧ u.path = v.path ∧ u.hasQ = v.hasQ ∧ u.query = v.query ∧ u.hasF = v.hasF ∧ u.frag = v.frag
instance (u v : Url12) : Decidable (Same12 u v) := by unfold Same12; infer_instance
def same12 (u v : Url12) : Bool := decide (Same12 u v)
theorem Same12.of (u : Url12) : Same12 u u := ⟨rfl, rfl, rfl, ⟨rfl, rfl, rfl, rfl, rfl, rfl, rfl, rfl, rfl, rfl, rfl⟩, rfl, rfl, rfl, rfl, rfl, rfl, rfl⟩
theorem same12_self (u : Url12) : same12 u u = true := decide_eq_true (Same12.of u)
/-- Few: 20 segments of 60 bytes, and texts of 100. -/
def few12 (u : Url12) : Bool := decide (u.path.length ≤ 20 ∧ (∀ p ∈ u.path, p.length ≤ 60) ∧ u.scheme.size ≤ 100 ∧ u.user.size ≤ 100 ∧ u.pass.size ≤ 100 ∧ u.name.size ≤ 100 ∧ u.query.size ≤ 100 ∧ u.frag.size ≤ 100)
/-- What a URL's numbers are. -/
structure Nums12 (u : Url12) : Prop where
  k0 : -9223372036854775808 ≤ u.kind
  k1 : u.kind ≤ 9223372036854775807
  p0 : -9223372036854775808 ≤ u.port
  p1 : u.port ≤ 9223372036854775807
  v4 : u.v4 < 4294967296
  v6 : ∀ n ∈ u.v6, n < 65536
/-- A URL of whose texts no one is great. -/
structure Wee12 (u : Url12) : Prop where
  nums : Nums12 u
  len : u.path.length ≤ 50
  segs : ∀ p ∈ u.path, p.length ≤ 200
  scheme : u.scheme.size ≤ 200
  user : u.user.size ≤ 200
  pass : u.pass.size ≤ 200
  name : u.name.size ≤ 200
  query : u.query.size ≤ 200
  frag : u.frag.size ≤ 200
theorem few12_wee {u : Url12} (hn : Nums12 u) (h : few12 u = true) : Wee12 u := by
  obtain ⟨h1, h2, h3, h4, h5, h6, h7, h8⟩ := of_decide_eq_true h
  exact ⟨hn, by omega, fun p hp => Nat.le_trans (h2 p hp) (by omega), by omega, by omega, by omega, by omega, by omega, by omega⟩
theorem textK_len {k : Int} {nm : List UInt8} {v4 : Nat} {l : List Nat} (hn : nm.length ≤ 200) (h4 : v4 < 4294967296) (hl : l.length = 8) (h6 : ∀ n ∈ l, n < 65536) : (textK k nm v4 l).length ≤ 200 := by
  unfold textK
  split
  · exact hn
  · split
    · have := (text7_len h4).2; omega
    · split
      · have := (text8_len hl h6).2
        simp
        omega
      · simp
end Go.Proofs.YtliklhldlofnjaaDoor

/-
  The document's Path of layer 12, by its contract (written by mkrec.py).
-/
namespace Go.Proofs.YtliklhldlofnjaaDoor
open Go.RowKit

theorem wee_path {u : Url12} (h : Wee12 u) : Wee u.path := ⟨by have := h.len; omega, fun p hp => Nat.le_trans (h.segs p hp) (by omega)⟩
/-- A segment's cell. -/
theorem Segs.first {w : World} {A : Option Addr} {p : Seg} {ps : List Seg} (h : Segs w A (p :: ps)) : ∃ b off, A = some ⟨b, off, none⟩ ∧ b < w.heap.size ∧ ∀ w', Below w.heap.size w w' → w'.cell? ⟨b, off, none⟩ = some (.string (txt10 p)) := by
  obtain ⟨b, off, rfl, hb, hc⟩ := h.at (i := 0) (p := p) rfl
  rw [Nat.add_zero] at hc
  exact ⟨b, off, rfl, hb, fun w' hw => (hw.cell (p := ⟨b, off, none⟩) hb).trans hc⟩
def Txt12 (l : List UInt8) (w : World) (e : Ending) (w' : World) : Prop := e = .returned (.string (txt10 l)) ∧ Below w.heap.size w w'
theorem bn12 {w a b : World} (h : Below w.heap.size w a) (k : Below a.heap.size a b) : Below w.heap.size w b := h.trans (k.mono h.size)
theorem bel12 (w : World) (o : Obj) : Below w.heap.size w (w.alloc o) := (Below.refl _ w).alloc (Nat.le_refl _) o
end Go.Proofs.YtliklhldlofnjaaDoor

/-
  The document's Few of layer 12, by its contract (written by mkrec.py).
-/
namespace Go.Proofs.YtliklhldlofnjaaDoor
open Go.RowKit

/-- A URL of whose texts no one is longer than a text may be. -/
structure Fits12 (u : Url12) : Prop where
  scheme : u.scheme.size ≤ maxLen
  user : u.user.size ≤ maxLen
  pass : u.pass.size ≤ maxLen
  name : u.name.size ≤ maxLen
  query : u.query.size ≤ maxLen
  frag : u.frag.size ≤ maxLen
theorem few12_len {u : Url12} (h : ¬ u.path.length ≤ 20) : few12 u = false := decide_eq_false fun e => h e.1
theorem few12_seg {u : Url12} {p : Seg} (hp : p ∈ u.path) (h : 60 < p.length) : few12 u = false := decide_eq_false fun e => by have := e.2.1 p hp; omega
theorem few12_rest {u : Url12} (h1 : u.path.length ≤ 20) (h2 : ∀ p ∈ u.path, p.length ≤ 60) : few12 u = (decide (u.scheme.size ≤ 100) && decide (u.user.size ≤ 100) && decide (u.pass.size ≤ 100) && decide (u.name.size ≤ 100) && decide (u.query.size ≤ 100) && decide (u.frag.size ≤ 100)) := by
  unfold few12
  rw [Bool.eq_iff_iff]
  simp only [Bool.and_eq_true, decide_eq_true_eq]
  constructor
  · rintro ⟨_, _, a, b, c, d, e, f⟩; exact ⟨⟨⟨⟨⟨a, b⟩, c⟩, d⟩, e⟩, f⟩
  · rintro ⟨⟨⟨⟨⟨a, b⟩, c⟩, d⟩, e⟩, f⟩; exact ⟨h1, h2, a, b, c, d, e, f⟩
set_option maxHeartbeats 4000000 in
set_option maxRecDepth 100000 in
theorem refFew12_any (u : Url12) (A : Option Addr) (n c : Nat) (hn : u.path.length = n) (hl : n ≤ maxLen) (w : World) (h : Segs w A u.path) (hf : Fits12 u) :
    Calls Tryd.prog 9 #[.agg #[.string u.scheme, .string u.user, .string u.pass, .int .i64 u.kind, .string u.name, .int .u32 (u.v4 : Int), .int .u16 (u.a0 : Int), .int .u16 (u.a1 : Int), .int .u16 (u.a2 : Int), .int .u16 (u.a3 : Int), .int .u16 (u.a4 : Int), .int .u16 (u.a5 : Int), .int .u16 (u.a6 : Int), .int .u16 (u.a7 : Int), .int .i64 u.port, .bool u.opaq, .slice A n c, .bool u.hasQ, .string u.query, .bool u.hasF, .string u.frag]] w fun e w' => e = .returned (.bool (few12 u)) ∧ Below w.heap.size w w' := by
  unfold maxLen at hl
  obtain ⟨f1, f2, f3, f4, f5, f6⟩ := hf
  unfold maxLen at f1 f2 f3 f4 f5 f6
  obtain ⟨F, hF⟩ : ∃ F, few12 u = F := ⟨_, rfl⟩
  rw [hF]
  have HF := Lib.hid hF
  clear hF
  go_enter Tryd.func9, Tryd.ntmps9
  go_wp2
  go_loop [3] (fun i => ∃ k : Nat, k ≤ n ∧ k ≤ 21 ∧ i = .int .i64 k ∧ ∀ p ∈ u.path.take k, p.length ≤ 60) (fun i => n - (intOf i).toNat)
  case atStart => exact ⟨0, Nat.zero_le _, by omega, rfl, by simp⟩
  case round =>
    obtain ⟨k, hk, hk21, rfl, hp⟩ := hrel
    have HP := Lib.hid hp
    clear hp
    by_cases hlt : k < n
    · by_cases h21 : k < 21
      · have hkp : k < u.path.length := by omega
        obtain ⟨b, off, rfl, hb, hcell⟩ := h.at (List.getElem?_eq_getElem hkp)
        have hc := ((bel12 w (.cells #[.string u.scheme, .string u.user, .string u.pass, .int .i64 u.kind, .string u.name, .int .u32 (u.v4 : Int), .int .u16 (u.a0 : Int), .int .u16 (u.a1 : Int), .int .u16 (u.a2 : Int), .int .u16 (u.a3 : Int), .int .u16 (u.a4 : Int), .int .u16 (u.a5 : Int), .int .u16 (u.a6 : Int), .int .u16 (u.a7 : Int), .int .i64 u.port, .bool u.opaq, .slice (some ⟨b, off, none⟩) n c, .bool u.hasQ, .string u.query, .bool u.hasF, .string u.frag] 29)).cell (p := ⟨b, off + k, none⟩) hb).trans hcell
        have HS := Lib.hid h
        obtain ⟨p, hpe⟩ : ∃ p, u.path[k] = p := ⟨_, rfl⟩
        rw [hpe] at hc
        have hz : (txt10 p).size = p.length := txt10_size p
        by_cases h60 : p.length ≤ 60
        · have HN : Hid (∀ q ∈ u.path.take (k + 1), q.length ≤ 60) := by
            show ∀ q ∈ u.path.take (k + 1), q.length ≤ 60
            rw [List.take_succ_eq_append_getElem hkp]
            intro q hq
            rcases List.mem_append.1 hq with hq | hq
            · exact HP.out q hq
            · rw [List.mem_singleton.1 hq, hpe]; exact h60
          have hz2 : (txt10 p).size ≤ 60 := by omega
          clear hpe hcell h h60 hz hkp
          go_wp2
          go_round
          case rel => exact ⟨k + 1, by omega, by omega, by go_num, HN.out⟩
          case measure => simp [intOf]; omega
        · have HN : Hid (F = false) := by show F = false; rw [← HF.out]; exact few12_seg (hpe ▸ List.getElem_mem hkp) (by omega)
          have hz2 : 60 < (txt10 p).size := by omega
          clear hpe hcell h h60 hz hkp
          go_wp2
          go_ret
          exact ⟨ret_bool HN.out.symm, bel12 _ _⟩
      · have HN : Hid (F = false) := by show F = false; rw [← HF.out]; exact few12_len (by omega)
        clear h
        go_wp2
        all_goals
          go_ret
          exact ⟨ret_bool HN.out.symm, bel12 _ _⟩
    · by_cases h20 : n ≤ 20
      · have HN : Hid (F = (decide (u.scheme.size ≤ 100) && decide (u.user.size ≤ 100) && decide (u.pass.size ≤ 100) && decide (u.name.size ≤ 100) && decide (u.query.size ≤ 100) && decide (u.frag.size ≤ 100))) := by
          show F = _
          rw [← HF.out]
          exact few12_rest (by omega) (by have := HP.out; rwa [List.take_of_length_le (by omega)] at this)
        clear h
        go_wp2
        all_goals
          go_ret
          refine ⟨ret_bool ?_, bel12 _ _⟩
          rw [HN.out, Bool.eq_iff_iff]
          simp only [Bool.and_eq_true, decide_eq_true_eq, Bool.false_eq_true, false_iff, true_iff, reduceCtorEq]
          omega
      · have HN : Hid (F = false) := by show F = false; rw [← HF.out]; exact few12_len (by omega)
        clear h
        go_wp2
        all_goals
          go_ret
          exact ⟨ret_bool HN.out.symm, bel12 _ _⟩
theorem rfew_is {u : Url12} {b : Bool} (hb : few12 u = b) (A : Option Addr) (n c : Nat) (hn : u.path.length = n) (hl : n ≤ maxLen) (w : World) (h : Segs w A u.path) (hf : Fits12 u) :
    Calls Tryd.prog 9 #[.agg #[.string u.scheme, .string u.user, .string u.pass, .int .i64 u.kind, .string u.name, .int .u32 (u.v4 : Int), .int .u16 (u.a0 : Int), .int .u16 (u.a1 : Int), .int .u16 (u.a2 : Int), .int .u16 (u.a3 : Int), .int .u16 (u.a4 : Int), .int .u16 (u.a5 : Int), .int .u16 (u.a6 : Int), .int .u16 (u.a7 : Int), .int .i64 u.port, .bool u.opaq, .slice A n c, .bool u.hasQ, .string u.query, .bool u.hasF, .string u.frag]] w fun e w' => e = .returned (.bool b) ∧ Below w.heap.size w w' := hb ▸ refFew12_any u A n c hn hl w h hf
end Go.Proofs.YtliklhldlofnjaaDoor

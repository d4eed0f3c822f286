/-
  In this text, one behind the other: GText, RecMath, RecNum, RecPath, RecFew.
-/
import Derived.BigQuiet
import Derived.Deep.AppendLies
import Derived.Deep.Light
import Derived.Deep.LoopGhost
import Derived.Deep.QuietTactic
import Derived.Deep.RegionHeld3
import Derived.Deep.RegionWith
import Derived.IntWalk
import Derived.LaidEql
import Derived.Laws.AppendOwnNone
import Derived.Laws.BitsLemmas
import Derived.Laws.Cover4
import Derived.Lib.Hide
import Derived.Maps.AppendAt
import Derived.RowKitTokens
import Derived.Stop.Asserts
import Derived.WalkKit
import Derived.WalkLawsBesides
import Derived.WalkSpells
import Derived.Test.YtliklhldlofnjaaDoorRows
import Derived.Test.YtliklhldlofnjaaDoorG1
import Derived.Test.YtliklhldlofnjaaDoorG3
import Derived.Test.YtliklhldlofnjaaDoorG5
import Derived.Test.YtliklhldlofnjaaDoorG7
import Derived.Test.YtliklhldlofnjaaDoorG8
import Derived.Test.YtliklhldlofnjaaDoorG6
/-
  The document's Text of layer 9, by its contract.
-/
namespace Go.Proofs.YtliklhldlofnjaaDoor
open Go.RowKit

/-- A host as a text, whatever its kind. -/
def textK (k : Int) (nm : List UInt8) (v4 : Nat) (v6 : List Nat) : List UInt8 :=
  if k = 2 ∨ k = 5 then nm else if k = 3 then text7 v4 else if k = 4 then 91 :: (text8 v6 ++ [93]) else []
theorem t7_is {n : Nat} {t : ByteArray} (h : btx (text7 n) = t) (hn : n < 4294967296) (w : World) : Calls Tryd.prog 29 #[.int .u32 (n : Int)] w fun e w' => e = .returned (.string t) ∧ Below w.heap.size w w' := by
  have := text7_any n w hn
  rw [h] at this
  exact this
theorem t8_is (a0 a1 a2 a3 a4 a5 a6 a7 : Nat) {t : ByteArray} (ht : btx (text8 [a0, a1, a2, a3, a4, a5, a6, a7]) = t) (h6 : ∀ n ∈ [a0, a1, a2, a3, a4, a5, a6, a7], n < 65536) (w : World) :
    Calls Tryd.prog 30 #[.agg #[.int .u16 (a0 : Int), .int .u16 (a1 : Int), .int .u16 (a2 : Int), .int .u16 (a3 : Int), .int .u16 (a4 : Int), .int .u16 (a5 : Int), .int .u16 (a6 : Int), .int .u16 (a7 : Int)]] w fun e w' => e = .returned (.string t) ∧ Below w.heap.size w w' := by
  have := text8_any a0 a1 a2 a3 a4 a5 a6 a7 w h6
  rw [ht] at this
  exact this

set_option maxHeartbeats 1000000 in
set_option maxRecDepth 100000 in
theorem refText9_any (k : Int) (nm : ByteArray) (v4 : Nat) (a0 a1 a2 a3 a4 a5 a6 a7 : Nat) (w : World) (hv : v4 < 4294967296) (h6 : ∀ n ∈ [a0, a1, a2, a3, a4, a5, a6, a7], n < 65536) :
    Calls Tryd.prog 20 #[.agg #[.int .i64 k, .string nm, .int .u32 (v4 : Int), .int .u16 (a0 : Int), .int .u16 (a1 : Int), .int .u16 (a2 : Int), .int .u16 (a3 : Int), .int .u16 (a4 : Int), .int .u16 (a5 : Int), .int .u16 (a6 : Int), .int .u16 (a7 : Int)]] w fun e w' => e = .returned (.string (btx (textK k nm.data.toList v4 [a0, a1, a2, a3, a4, a5, a6, a7]))) ∧ Below w.heap.size w w' := by
  have H6 := Lib.hid h6
  clear h6
  obtain ⟨R, hR⟩ : ∃ R, btx (textK k nm.data.toList v4 [a0, a1, a2, a3, a4, a5, a6, a7]) = R := ⟨_, rfl⟩
  rw [hR]
  have HR := Lib.hid hR
  clear hR
  have HB := Lib.hid ((Below.refl w.heap.size w).alloc (Nat.le_refl _) (.cells #[.int .i64 k, .string nm, .int .u32 (v4 : Int), .int .u16 (a0 : Int), .int .u16 (a1 : Int), .int .u16 (a2 : Int), .int .u16 (a3 : Int), .int .u16 (a4 : Int), .int .u16 (a5 : Int), .int .u16 (a6 : Int), .int .u16 (a7 : Int)] 26))
  by_cases k2 : k = 2
  · subst k2
    have HN : Hid (R = nm) := by show R = nm; rw [← HR.out]; rfl
    go_enter Tryd.func20, Tryd.ntmps20
    go_wp2
    go_ret
    exact ⟨by rw [HN.out]; rfl, HB.out⟩
  · by_cases k5 : k = 5
    · subst k5
      have HN : Hid (R = nm) := by show R = nm; rw [← HR.out]; rfl
      go_enter Tryd.func20, Tryd.ntmps20
      go_wp2
      go_ret
      exact ⟨by rw [HN.out]; rfl, HB.out⟩
    · have h25 : ¬ (k = 2 ∨ k = 5) := by omega
      have e2 : (k == 2) = false := beq_eq_false_iff_ne.2 k2
      have e5 : (k == 5) = false := beq_eq_false_iff_ne.2 k5
      by_cases k3 : k = 3
      · subst k3
        obtain ⟨t, ht⟩ : ∃ t, btx (text7 v4) = t := ⟨_, rfl⟩
        have HT := Lib.hid ht
        have HN : Hid (R = t) := by show R = t; rw [← HR.out, ← ht]; rfl
        clear ht k2 k5 h25 e2 e5
        go_enter Tryd.func20, Tryd.ntmps20
        go_wp2_with (go_at_call 29; refine (t7_is HT.out hv _).mono ?_; rintro e w1 ⟨rfl, hb⟩; have HB := Lib.hid (bnx8 HB.out hb); clear hb)
        go_ret
        exact ⟨by rw [HN.out]; rfl, HB.out⟩
      · have e3 : (k == 3) = false := beq_eq_false_iff_ne.2 k3
        by_cases k4 : k = 4
        · subst k4
          obtain ⟨t, ht⟩ : ∃ t, btx (text8 [a0, a1, a2, a3, a4, a5, a6, a7]) = t := ⟨_, rfl⟩
          have htz : t.size ≤ 39 := by rw [← ht, btx_size]; exact (text8_len rfl H6.out).2
          have HT := Lib.hid ht
          have HN : Hid (R = (⟨#[91]⟩ : ByteArray) ++ t ++ ⟨#[93]⟩) := by
            show R = (⟨#[91]⟩ : ByteArray) ++ t ++ ⟨#[93]⟩
            rw [← HR.out, ← ht]
            refine ByteArray.ext (Array.toList_inj.1 ?_)
            show textK 4 nm.data.toList v4 [a0, a1, a2, a3, a4, a5, a6, a7] = _
            simp [btx, textK]
          clear ht k2 k5 h25 e2 e5 k3 e3
          go_enter Tryd.func20, Tryd.ntmps20
          go_wp2_with (go_at_call 30; refine (t8_is a0 a1 a2 a3 a4 a5 a6 a7 HT.out H6.out _).mono ?_; rintro e w1 ⟨rfl, hb⟩; have HB := Lib.hid (bnx8 HB.out hb); clear hb)
          go_ret
          exact ⟨by rw [HN.out]; rfl, HB.out⟩
        · have e4 : (k == 4) = false := beq_eq_false_iff_ne.2 k4
          have HN : Hid (R = ⟨#[]⟩) := by
            show R = ⟨#[]⟩
            rw [← HR.out]
            unfold textK
            rw [if_neg h25, if_neg k3, if_neg k4]; rfl
          clear k2 k5 h25 k3 k4
          go_enter Tryd.func20, Tryd.ntmps20
          go_wp2
          go_ret
          exact ⟨by rw [HN.out]; rfl, HB.out⟩
end Go.Proofs.YtliklhldlofnjaaDoor

/-
  URLs as texts: the document of layer 12 as plain functions (written by mkrec.py).
-/
namespace Go.Proofs.YtliklhldlofnjaaDoor
open Go.RowKit

/-- A URL; its path as segments. -/
structure Url12 where
  scheme : ByteArray
  user : ByteArray
  pass : ByteArray
  kind : Int
  name : ByteArray
  v4 : Nat
  a0 : Nat
  a1 : Nat
  a2 : Nat
  a3 : Nat
  a4 : Nat
  a5 : Nat
  a6 : Nat
  a7 : Nat
  port : Int
  opaq : Bool
  path : List Seg
  hasQ : Bool
  query : ByteArray
  hasF : Bool
  frag : ByteArray
def Url12.v6 (u : Url12) : List Nat := [u.a0, u.a1, u.a2, u.a3, u.a4, u.a5, u.a6, u.a7]
def path12 (u : Url12) : List UInt8 := if u.opaq then u.path.headD [] else txt11 u.path
def cred12 (u : Url12) : List UInt8 := if u.user = ⟨#[]⟩ ∧ u.pass = ⟨#[]⟩ then [] else u.user.data.toList ++ ((if u.pass = ⟨#[]⟩ then [] else 58 :: u.pass.data.toList) ++ [64])
def port12 (u : Url12) : List UInt8 := if 0 ≤ u.port then 58 :: dcm10 u.port.toNat else []
def dotted12 (u : Url12) : Bool := !u.opaq && decide (1 < u.path.length) && decide (u.path.headD [] = [])
def front12 (u : Url12) : List UInt8 := if u.kind ≠ 0 then 47 :: 47 :: (cred12 u ++ (textK u.kind u.name.data.toList u.v4 u.v6 ++ port12 u)) else if dotted12 u then [47, 46] else []
def query12 (u : Url12) : List UInt8 := if u.hasQ then 63 :: u.query.data.toList else []
def frag12 (u : Url12) (bare : Bool) : List UInt8 := if !bare && u.hasF then 35 :: u.frag.data.toList else []
/-- P12.2. -/
def text12 (u : Url12) (bare : Bool) : List UInt8 := u.scheme.data.toList ++ 58 :: (front12 u ++ (path12 u ++ (query12 u ++ frag12 u bare)))
/-- P12.3. -/
def Same12 (u v : Url12) : Prop := u.scheme = v.scheme ∧ u.user = v.user ∧ u.pass = v.pass ∧ (u.kind = v.kind ∧ u.name = v.name ∧ u.v4 = v.v4 ∧ u.a0 = v.a0 ∧ u.a1 = v.a1 ∧ u.a2 = v.a2 ∧ u.a3 = v.a3 ∧ u.a4 = v.a4 ∧ u.a5 = v.a5 ∧ u.a6 = v.a6 ∧ u.a7 = v.a7) ∧ u.port = v.port ∧ u.opaq = v.opaq ∧ u.path = v.path ∧ u.hasQ = v.hasQ ∧ u.query = v.query ∧ u.hasF = v.hasF ∧ u.frag = v.frag
instance (u v : Url12) : Decidable (Same12 u v) := by unfold Same12; infer_instance
def same12 (u v : Url12) : Bool := decide (Same12 u v)
theorem Same12.of (u : Url12) : Same12 u u := ⟨rfl, rfl, rfl, ⟨rfl, rfl, rfl, rfl, rfl, rfl, rfl, rfl, rfl, rfl, rfl⟩, rfl, rfl, rfl, rfl, rfl, rfl, rfl⟩
theorem same12_self (u : Url12) : same12 u u = true := decide_eq_true (Same12.of u)
/-- Few: 20 segments of 60 bytes, and texts of 100. -/
def few12 (u : Url12) : Bool := decide (u.path.length ≤ 20 ∧ (∀ p ∈ u.path, p.length ≤ 60) ∧ u.scheme.size ≤ 100 ∧ u.user.size ≤ 100 ∧ u.pass.size ≤ 100 ∧ u.name.size ≤ 100 ∧ u.query.size ≤ 100 ∧ u.frag.size ≤ 100)
/-- What a URL's numbers are. -/
structure Nums12 (u : Url12) : Prop where
  k0 : -9223372036854775808 ≤ u.kind
  k1 : u.kind ≤ 9223372036854775807
  p0 : -9223372036854775808 ≤ u.port
  p1 : u.port ≤ 9223372036854775807
  v4 : u.v4 < 4294967296
  v6 : ∀ n ∈ u.v6, n < 65536
/-- A URL of whose texts no one is great. -/
structure Wee12 (u : Url12) : Prop where
  nums : Nums12 u
  len : u.path.length ≤ 50
  segs : ∀ p ∈ u.path, p.length ≤ 200
  scheme : u.scheme.size ≤ 200
  user : u.user.size ≤ 200
  pass : u.pass.size ≤ 200
  name : u.name.size ≤ 200
  query : u.query.size ≤ 200
  frag : u.frag.size ≤ 200
theorem few12_wee {u : Url12} (hn : Nums12 u) (h : few12 u = true) : Wee12 u := by
  obtain ⟨h1, h2, h3, h4, h5, h6, h7, h8⟩ := of_decide_eq_true h
  exact ⟨hn, by omega, fun p hp => Nat.le_trans (h2 p hp) (by omega), by omega, by omega, by omega, by omega, by omega, by omega⟩
theorem textK_len {k : Int} {nm : List UInt8} {v4 : Nat} {l : List Nat} (hn : nm.length ≤ 200) (h4 : v4 < 4294967296) (hl : l.length = 8) (h6 : ∀ n ∈ l, n < 65536) : (textK k nm v4 l).length ≤ 200 := by
  unfold textK
  split
  · exact hn
  · split
    · have := (text7_len h4).2; omega
    · split
      · have := (text8_len hl h6).2
        simp
        omega
      · simp
end Go.Proofs.YtliklhldlofnjaaDoor

/-
  The document's number of layer 12 (written by mkrec.py out of layer 10's).
-/
namespace Go.Proofs.YtliklhldlofnjaaDoor
open Go.RowKit

def TextR12 (s : ByteArray) (w : World) (e : Ending) (w' : World) : Prop := e = .returned (.string s) ∧ Below w.heap.size w w'
theorem r12btx_append (a b : List UInt8) : txt10 (a ++ b) = txt10 a ++ txt10 b := by
  apply ByteArray.ext
  rw [ByteArray.data_append]
  apply Array.toList_inj.1
  simp [txt10]
theorem r12conv_one (W : World) (g : Nat) (hg : W.heap.size = g) (c : Int) (b : UInt8) (hc : c = (b.toNat : Int)) :
    (convert 49 9 (.slice (some ⟨g, 0, none⟩) 1 1)).run Tryd.prog (W.alloc (.cells #[.int .u8 c] 5)) = .ok (.string (txt10 [b])) (W.alloc (.cells #[.int .u8 c] 5)) := by
  subst hg hc
  exact run_convert_bytes_back (W.alloc (.cells #[.int .u8 (b.toNat : Int)] 5)) _ _ _ ⟨W.heap.size, 0, none⟩ 1 [b] Tryd.underlying49 Tryd.underlying5 Tryd.underlying9 (fun j hj => by
    obtain rfl : j = 0 := by simp at hj; omega
    simp [Addr.add])
theorem r12fig7 {d : Nat} {c : Int} (hd : d < 10) (hc : c = 48 + (d : Int)) : c = ((UInt8.ofNat (48 + d)).toNat : Int) := by
  rw [hc]
  have : (48 + d) % 256 = 48 + d := by omega
  simp [this]
theorem r12btx_dec {n : Nat} (h : ¬ n < 10) {f : UInt8} (hf : UInt8.ofNat (48 + n % 10) = f) : txt10 (dcm10 n) = txt10 (dcm10 (n / 10)) ++ txt10 [f] := by
  rw [← r12btx_append]
  congr 1
  conv => lhs; unfold dcm10
  rw [if_neg h, hf]
theorem r12btx_fig {n : Nat} (h : n < 10) {f : UInt8} (hf : UInt8.ofNat (48 + n) = f) : txt10 (dcm10 n) = txt10 [f] := by
  congr 1
  unfold dcm10
  rw [if_pos h, hf]

theorem r12conv_at (W : World) (g : Nat) (b : UInt8) (hc : W.cell? ⟨g, 0, none⟩ = some (.int .u8 (b.toNat : Int))) :
    (convert 49 9 (.slice (some ⟨g, 0, none⟩) 1 1)).run Tryd.prog W = .ok (.string (txt10 [b])) W :=
  run_convert_bytes_back W _ _ _ ⟨g, 0, none⟩ 1 [b] Tryd.underlying49 Tryd.underlying5 Tryd.underlying9 (fun j hj => by
    obtain rfl : j = 0 := by simp at hj; omega
    simpa [Addr.add] using hc)

theorem r12conv_kept {W w1 : World} {g : Nat} {b : UInt8} (hc : W.cell? ⟨g, 0, none⟩ = some (.int .u8 (b.toNat : Int))) (h : Below W.heap.size W w1) :
    (convert 49 9 (.slice (some ⟨g, 0, none⟩) 1 1)).run Tryd.prog w1 = .ok (.string (txt10 [b])) w1 := by
  refine r12conv_at w1 g b ((h.cell (p := ⟨g, 0, none⟩) ?_).trans hc)
  rcases Nat.lt_or_ge g W.heap.size with h' | h'
  · exact h'
  · simp [World.cell?, Array.getElem?_eq_none h'] at hc

theorem r12bw1 {w w1 : World} (h : Below w.drew.heap.size w.drew w1) : Below w.heap.size w w1 := (below_drewN (Below.refl _ w) 1).trans h
theorem r12bw2 {w w1 : World} {o : Obj} (h : Below (w.alloc o).drew.heap.size (w.alloc o).drew w1) : Below w.heap.size w w1 :=
  ((Below.refl _ w).alloc (Nat.le_refl _) o).trans ((r12bw1 h).mono (by simp))
set_option maxHeartbeats 2000000 in
set_option maxRecDepth 100000 in
theorem r12num_small (n : Nat) (w : World) (hn : n < 10) :
    Calls Tryd.prog 21 #[.int .i64 (n : Int)] w (TextR12 (txt10 (dcm10 n)) w) := by
  obtain ⟨f, hf⟩ : ∃ f, UInt8.ofNat (48 + n) = f := ⟨_, rfl⟩
  have HR := Lib.hid (r12btx_fig hn hf)
  have g : 48 + (n : Int) = (f.toNat : Int) := by rw [← hf]; exact r12fig7 hn rfl
  have e := f.toNat_lt
  have hcv := r12conv_one w w.heap.size rfl (f.toNat : Int) f rfl
  clear hf
  go_enter Tryd.func21, Tryd.ntmps21
  go_wp2
  go_ret
  exact ⟨by rw [HR.out]; rfl, (Below.refl _ _).alloc (Nat.le_refl _) _⟩

set_option maxHeartbeats 400000 in
set_option maxRecDepth 100000 in
theorem r12num_more (n : Nat) (w : World) (hn : ¬ n < 10) (hb : n < 9223372036854775808) (ih : ∀ w, Calls Tryd.prog 21 #[.int .i64 ((n / 10 : Nat) : Int)] w (TextR12 (txt10 (dcm10 (n / 10))) w)) :
    Calls Tryd.prog 21 #[.int .i64 (n : Int)] w (TextR12 (txt10 (dcm10 n)) w) := by
  obtain ⟨f, hf⟩ : ∃ f, UInt8.ofNat (48 + n % 10) = f := ⟨_, rfl⟩
  have HR := Lib.hid (r12btx_dec hn hf)
  have hl : (txt10 (dcm10 (n / 10))).size ≤ 19 := by rw [txt10_size]; exact Nat.le_trans (dcm10_len 18 (n / 10) (by omega)) (by omega)
  obtain ⟨t, ht⟩ : ∃ t, txt10 (dcm10 (n / 10)) = t := ⟨_, rfl⟩
  rw [ht] at HR ih hl
  have g : 48 + (n : Int) % 10 = (f.toNat : Int) := by rw [← hf]; exact r12fig7 (by omega) (by omega)
  have e := f.toNat_lt
  obtain ⟨q, hq⟩ : ∃ q, n / 10 = q := ⟨_, rfl⟩
  rw [hq] at ih
  have hqi : (n : Int) / 10 = (q : Int) := by omega
  have hql : q < 9223372036854775808 := by omega
  have HIh := Lib.hid ih
  have hf1 : (txt10 [f]).size = 1 := by rw [txt10_size]; rfl
  clear hf ih ht hq
  go_enter Tryd.func21, Tryd.ntmps21
  go_wp2_with fail
  have hd1 : (n : Int).tdiv 10 = (q : Int) := by rw [Int.tdiv_eq_ediv_of_nonneg (by omega)]; exact hqi
  obtain ⟨r, hr⟩ : ∃ r, n % 10 = r := ⟨_, rfl⟩
  have hr1 : r < 10 := by omega
  have hd2 : (n : Int).tmod 10 = (r : Int) := by rw [Int.tmod_eq_emod_of_nonneg (by omega)]; omega
  have hd3 : (n : Int) % 10 = (r : Int) := by omega
  have g' : 48 + (r : Int) = (f.toNat : Int) := by omega
  have hw1 : IntKind.i64.wrap (q : Int) = (q : Int) := by simp [IntKind.wrap, IntKind.bits, IntKind.signed]; omega
  have hw2 : IntKind.i64.wrap (r : Int) = (r : Int) := by simp [IntKind.wrap, IntKind.bits, IntKind.signed]; omega
  have hw3 : IntKind.i64.wrap (f.toNat : Int) = (f.toNat : Int) := by simp [IntKind.wrap, IntKind.bits, IntKind.signed]; omega
  have hw4 : IntKind.u8.wrap (f.toNat : Int) = (f.toNat : Int) := by simp [IntKind.wrap, IntKind.bits, IntKind.signed]; omega
  have hcv := r12conv_one w w.heap.size rfl (f.toNat : Int) f rfl
  have hcv2 := r12conv_one w.drew w.heap.size rfl (f.toNat : Int) f rfl
  have c1 : (w.drew.alloc (.cells #[.int .u8 (f.toNat : Int)] 5)).cell? ⟨w.heap.size, 0, none⟩ = some (.int .u8 (f.toNat : Int)) := World.cell?_alloc_at _ _ _ _ rfl
  have c2 : (w.alloc (.cells #[.int .u8 (f.toNat : Int)] 5)).drew.cell? ⟨w.heap.size, 0, none⟩ = some (.int .u8 (f.toNat : Int)) := World.cell?_alloc_at (w := w) _ _ _ _ rfl
  have c3 : (w.alloc (.cells #[.int .u8 (f.toNat : Int)] 5)).cell? ⟨w.heap.size, 0, none⟩ = some (.int .u8 (f.toNat : Int)) := World.cell?_alloc_at _ _ _ _ rfl
  have hcv6 := r12conv_at _ _ _ c2
  clear hr g hn
  go_region_with (first
    | (go_at_call 21; (with_reducible refine (HIh.out _).mono ?_); rintro e w1 ⟨rfl, hb1⟩; (first | have HB1 := Lib.hid (r12bw1 (w := w) hb1) | have HB1 := Lib.hid (r12bw2 (w := w) hb1) | have HB1 := Lib.hid (r12bw3 (w := w) hb1) | have HB1 := Lib.hid (r12bw4 (w := w) hb1)); have hcv3 := r12conv_one w1 w1.heap.size rfl (f.toNat : Int) f rfl; (first | have hcv4 := r12conv_kept c1 hb1 | have hcv4 := r12conv_kept c2 hb1 | have hcv4 := r12conv_kept c3 hb1 | skip); clear hb1))
  all_goals
    go_wp2
    go_ret
    refine ⟨by rw [HR.out]; rfl, ?_⟩
    first
    | exact HB1.out
    | exact HB1.out.alloc HB1.out.size _
theorem r12num_any : ∀ (n : Nat) (w : World), n < 9223372036854775808 → Calls Tryd.prog 21 #[.int .i64 (n : Int)] w (TextR12 (txt10 (dcm10 n)) w) := by
  intro n
  induction n using Nat.strongRecOn with
  | ind n ih =>
    intro w hn
    by_cases h : n < 10
    · exact r12num_small n w h
    · exact r12num_more n w h hn (fun w => ih (n / 10) (by omega) w (by omega))
theorem num_is12 {n : Nat} {t : ByteArray} (h : txt10 (dcm10 n) = t) (hn : n < 9223372036854775808) (w : World) : Calls Tryd.prog 21 #[.int .i64 (n : Int)] w fun e w' => e = .returned (.string t) ∧ Below w.heap.size w w' := by
  have := r12num_any n w hn
  rw [h] at this
  exact this
end Go.Proofs.YtliklhldlofnjaaDoor

/-
  The document's Path of layer 12, by its contract (written by mkrec.py).
-/
namespace Go.Proofs.YtliklhldlofnjaaDoor
open Go.RowKit

theorem wee_path {u : Url12} (h : Wee12 u) : Wee u.path := ⟨by have := h.len; omega, fun p hp => Nat.le_trans (h.segs p hp) (by omega)⟩
/-- A segment's cell. -/
theorem Segs.first {w : World} {A : Option Addr} {p : Seg} {ps : List Seg} (h : Segs w A (p :: ps)) : ∃ b off, A = some ⟨b, off, none⟩ ∧ b < w.heap.size ∧ ∀ w', Below w.heap.size w w' → w'.cell? ⟨b, off, none⟩ = some (.string (txt10 p)) := by
  obtain ⟨b, off, rfl, hb, hc⟩ := h.at (i := 0) (p := p) rfl
  rw [Nat.add_zero] at hc
  exact ⟨b, off, rfl, hb, fun w' hw => (hw.cell (p := ⟨b, off, none⟩) hb).trans hc⟩
def Txt12 (l : List UInt8) (w : World) (e : Ending) (w' : World) : Prop := e = .returned (.string (txt10 l)) ∧ Below w.heap.size w w'
theorem bn12 {w a b : World} (h : Below w.heap.size w a) (k : Below a.heap.size a b) : Below w.heap.size w b := h.trans (k.mono h.size)
theorem bel12 (w : World) (o : Obj) : Below w.heap.size w (w.alloc o) := (Below.refl _ w).alloc (Nat.le_refl _) o
set_option maxHeartbeats 2000000 in
set_option maxRecDepth 100000 in
theorem refPath12_any (u : Url12) (A : Option Addr) (n c : Nat) (hn : u.path.length = n) (w : World) (h : Segs w A u.path) (hw : Wee12 u) :
    Calls Tryd.prog 13 #[.agg #[.string u.scheme, .string u.user, .string u.pass, .int .i64 u.kind, .string u.name, .int .u32 (u.v4 : Int), .int .u16 (u.a0 : Int), .int .u16 (u.a1 : Int), .int .u16 (u.a2 : Int), .int .u16 (u.a3 : Int), .int .u16 (u.a4 : Int), .int .u16 (u.a5 : Int), .int .u16 (u.a6 : Int), .int .u16 (u.a7 : Int), .int .i64 u.port, .bool u.opaq, .slice A n c, .bool u.hasQ, .string u.query, .bool u.hasF, .string u.frag]] w (Txt12 (path12 u) w) := by
  obtain ⟨P, hP⟩ : ∃ P, path12 u = P := ⟨_, rfl⟩
  rw [hP]
  have hlen := hw.len
  cases ho : u.opaq with
  | false =>
    have e : txt10 (txt11 u.path) = txt10 P := by rw [← hP]; unfold path12; rw [ho]; rfl
    have HT := Lib.hid (rtext_is e A n c hn _ (h.below (bel12 w (.cells #[.string u.scheme, .string u.user, .string u.pass, .int .i64 u.kind, .string u.name, .int .u32 (u.v4 : Int), .int .u16 (u.a0 : Int), .int .u16 (u.a1 : Int), .int .u16 (u.a2 : Int), .int .u16 (u.a3 : Int), .int .u16 (u.a4 : Int), .int .u16 (u.a5 : Int), .int .u16 (u.a6 : Int), .int .u16 (u.a7 : Int), .int .i64 u.port, .bool false, .slice A n c, .bool u.hasQ, .string u.query, .bool u.hasF, .string u.frag] 29))) (wee_path hw))
    clear h hw hP ho e
    go_enter Tryd.func13, Tryd.ntmps13
    go_wp2_with (go_at_call 23; (with_reducible refine (HT.out).mono ?_); rintro e w' ⟨rfl, rfl⟩)
    go_ret
    exact ⟨rfl, bel12 _ _⟩
  | true =>
    cases hp : u.path with
    | nil =>
      rw [hp] at hn
      obtain rfl : n = 0 := hn.symm
      have HN : Hid (P = []) := by show P = []; rw [← hP]; unfold path12; rw [ho, hp]; rfl
      clear h hw hP ho hp
      go_enter Tryd.func13, Tryd.ntmps13
      go_wp2
      go_ret
      exact ⟨by rw [HN.out]; rfl, bel12 _ _⟩
    | cons p ps =>
      rw [hp] at hn hlen
      have hn1 : n = ps.length + 1 := by rw [← hn]; rfl
      have hl1 : ps.length + 1 ≤ 50 := by simpa using hlen
      have HN : Hid (P = p) := by show P = p; rw [← hP]; unfold path12; rw [ho, hp]; rfl
      rw [hp] at h
      obtain ⟨b, off, rfl, hb, hc⟩ := h.first
      have hc1 := hc _ (bel12 w (.cells #[.string u.scheme, .string u.user, .string u.pass, .int .i64 u.kind, .string u.name, .int .u32 (u.v4 : Int), .int .u16 (u.a0 : Int), .int .u16 (u.a1 : Int), .int .u16 (u.a2 : Int), .int .u16 (u.a3 : Int), .int .u16 (u.a4 : Int), .int .u16 (u.a5 : Int), .int .u16 (u.a6 : Int), .int .u16 (u.a7 : Int), .int .i64 u.port, .bool true, .slice (some ⟨b, off, none⟩) n c, .bool u.hasQ, .string u.query, .bool u.hasF, .string u.frag] 29))
      have hn0 : 0 < n := by omega
      have hz : ((n : Int) == 0) = false := beq_eq_false_iff_ne.2 (by omega)
      have hn50 : n ≤ 50 := by omega
      clear h hw hP ho hp hn hc hlen hn1 hl1
      go_enter Tryd.func13, Tryd.ntmps13
      go_wp2
      go_ret
      exact ⟨by rw [HN.out]; rfl, bel12 _ _⟩
theorem rpath_is {u : Url12} {t : ByteArray} (ht : txt10 (path12 u) = t) (A : Option Addr) (n c : Nat) (hn : u.path.length = n) (w : World) (h : Segs w A u.path) (hw : Wee12 u) :
    Calls Tryd.prog 13 #[.agg #[.string u.scheme, .string u.user, .string u.pass, .int .i64 u.kind, .string u.name, .int .u32 (u.v4 : Int), .int .u16 (u.a0 : Int), .int .u16 (u.a1 : Int), .int .u16 (u.a2 : Int), .int .u16 (u.a3 : Int), .int .u16 (u.a4 : Int), .int .u16 (u.a5 : Int), .int .u16 (u.a6 : Int), .int .u16 (u.a7 : Int), .int .i64 u.port, .bool u.opaq, .slice A n c, .bool u.hasQ, .string u.query, .bool u.hasF, .string u.frag]] w fun e w' => e = .returned (.string t) ∧ Below w.heap.size w w' := ht ▸ refPath12_any u A n c hn w h hw
end Go.Proofs.YtliklhldlofnjaaDoor

/-
  The document's Few of layer 12, by its contract (written by mkrec.py).
-/
namespace Go.Proofs.YtliklhldlofnjaaDoor
open Go.RowKit

/-- A URL of whose texts no one is longer than a text may be. -/
structure Fits12 (u : Url12) : Prop where
  scheme : u.scheme.size ≤ maxLen
  user : u.user.size ≤ maxLen
  pass : u.pass.size ≤ maxLen
  name : u.name.size ≤ maxLen
  query : u.query.size ≤ maxLen
  frag : u.frag.size ≤ maxLen
theorem few12_len {u : Url12} (h : ¬ u.path.length ≤ 20) : few12 u = false := decide_eq_false fun e => h e.1
theorem few12_seg {u : Url12} {p : Seg} (hp : p ∈ u.path) (h : 60 < p.length) : few12 u = false := decide_eq_false fun e => by have := e.2.1 p hp; omega
theorem few12_rest {u : Url12} (h1 : u.path.length ≤ 20) (h2 : ∀ p ∈ u.path, p.length ≤ 60) : few12 u = (decide (u.scheme.size ≤ 100) && decide (u.user.size ≤ 100) && decide (u.pass.size ≤ 100) && decide (u.name.size ≤ 100) && decide (u.query.size ≤ 100) && decide (u.frag.size ≤ 100)) := by
  unfold few12
  rw [Bool.eq_iff_iff]
  simp only [Bool.and_eq_true, decide_eq_true_eq]
  constructor
  · rintro ⟨_, _, a, b, c, d, e, f⟩; exact ⟨⟨⟨⟨⟨a, b⟩, c⟩, d⟩, e⟩, f⟩
  · rintro ⟨⟨⟨⟨⟨a, b⟩, c⟩, d⟩, e⟩, f⟩; exact ⟨h1, h2, a, b, c, d, e, f⟩
set_option maxHeartbeats 4000000 in
set_option maxRecDepth 100000 in
theorem refFew12_any (u : Url12) (A : Option Addr) (n c : Nat) (hn : u.path.length = n) (hl : n ≤ maxLen) (w : World) (h : Segs w A u.path) (hf : Fits12 u) :
    Calls Tryd.prog 9 #[.agg #[.string u.scheme, .string u.user, .string u.pass, .int .i64 u.kind, .string u.name, .int .u32 (u.v4 : Int), .int .u16 (u.a0 : Int), .int .u16 (u.a1 : Int), .int .u16 (u.a2 : Int), .int .u16 (u.a3 : Int), .int .u16 (u.a4 : Int), .int .u16 (u.a5 : Int), .int .u16 (u.a6 : Int), .int .u16 (u.a7 : Int), .int .i64 u.port, .bool u.opaq, .slice A n c, .bool u.hasQ, .string u.query, .bool u.hasF, .string u.frag]] w fun e w' => e = .returned (.bool (few12 u)) ∧ Below w.heap.size w w' := by
  unfold maxLen at hl
  obtain ⟨f1, f2, f3, f4, f5, f6⟩ := hf
  unfold maxLen at f1 f2 f3 f4 f5 f6
  obtain ⟨F, hF⟩ : ∃ F, few12 u = F := ⟨_, rfl⟩
  rw [hF]
  have HF := Lib.hid hF
  clear hF
  go_enter Tryd.func9, Tryd.ntmps9
  go_wp2
  go_loop [3] (fun i => ∃ k : Nat, k ≤ n ∧ k ≤ 21 ∧ i = .int .i64 k ∧ ∀ p ∈ u.path.take k, p.length ≤ 60) (fun i => n - (intOf i).toNat)
  case atStart => exact ⟨0, Nat.zero_le _, by omega, rfl, by simp⟩
  case round =>
    obtain ⟨k, hk, hk21, rfl, hp⟩ := hrel
    have HP := Lib.hid hp
    clear hp
    by_cases hlt : k < n
    · by_cases h21 : k < 21
      · have hkp : k < u.path.length := by omega
        obtain ⟨b, off, rfl, hb, hcell⟩ := h.at (List.getElem?_eq_getElem hkp)
        have hc := ((bel12 w (.cells #[.string u.scheme, .string u.user, .string u.pass, .int .i64 u.kind, .string u.name, .int .u32 (u.v4 : Int), .int .u16 (u.a0 : Int), .int .u16 (u.a1 : Int), .int .u16 (u.a2 : Int), .int .u16 (u.a3 : Int), .int .u16 (u.a4 : Int), .int .u16 (u.a5 : Int), .int .u16 (u.a6 : Int), .int .u16 (u.a7 : Int), .int .i64 u.port, .bool u.opaq, .slice (some ⟨b, off, none⟩) n c, .bool u.hasQ, .string u.query, .bool u.hasF, .string u.frag] 29)).cell (p := ⟨b, off + k, none⟩) hb).trans hcell
        have HS := Lib.hid h
        obtain ⟨p, hpe⟩ : ∃ p, u.path[k] = p := ⟨_, rfl⟩
        rw [hpe] at hc
        have hz : (txt10 p).size = p.length := txt10_size p
        by_cases h60 : p.length ≤ 60
        · have HN : Hid (∀ q ∈ u.path.take (k + 1), q.length ≤ 60) := by
            show ∀ q ∈ u.path.take (k + 1), q.length ≤ 60
            rw [List.take_succ_eq_append_getElem hkp]
            intro q hq
            rcases List.mem_append.1 hq with hq | hq
            · exact HP.out q hq
            · rw [List.mem_singleton.1 hq, hpe]; exact h60
          have hz2 : (txt10 p).size ≤ 60 := by omega
          clear hpe hcell h h60 hz hkp
          go_wp2
          go_round
          case rel => exact ⟨k + 1, by omega, by omega, by go_num, HN.out⟩
          case measure => simp [intOf]; omega
        · have HN : Hid (F = false) := by show F = false; rw [← HF.out]; exact few12_seg (hpe ▸ List.getElem_mem hkp) (by omega)
          have hz2 : 60 < (txt10 p).size := by omega
          clear hpe hcell h h60 hz hkp
          go_wp2
          go_ret
          exact ⟨ret_bool HN.out.symm, bel12 _ _⟩
      · have HN : Hid (F = false) := by show F = false; rw [← HF.out]; exact few12_len (by omega)
        clear h
        go_wp2
        all_goals
          go_ret
          exact ⟨ret_bool HN.out.symm, bel12 _ _⟩
    · by_cases h20 : n ≤ 20
      · have HN : Hid (F = (decide (u.scheme.size ≤ 100) && decide (u.user.size ≤ 100) && decide (u.pass.size ≤ 100) && decide (u.name.size ≤ 100) && decide (u.query.size ≤ 100) && decide (u.frag.size ≤ 100))) := by
          show F = _
          rw [← HF.out]
          exact few12_rest (by omega) (by have := HP.out; rwa [List.take_of_length_le (by omega)] at this)
        clear h
        go_wp2
        all_goals
          go_ret
          refine ⟨ret_bool ?_, bel12 _ _⟩
          rw [HN.out, Bool.eq_iff_iff]
          simp only [Bool.and_eq_true, decide_eq_true_eq, Bool.false_eq_true, false_iff, true_iff, reduceCtorEq]
          omega
      · have HN : Hid (F = false) := by show F = false; rw [← HF.out]; exact few12_len (by omega)
        clear h
        go_wp2
        all_goals
          go_ret
          exact ⟨ret_bool HN.out.symm, bel12 _ _⟩
theorem rfew_is {u : Url12} {b : Bool} (hb : few12 u = b) (A : Option Addr) (n c : Nat) (hn : u.path.length = n) (hl : n ≤ maxLen) (w : World) (h : Segs w A u.path) (hf : Fits12 u) :
    Calls Tryd.prog 9 #[.agg #[.string u.scheme, .string u.user, .string u.pass, .int .i64 u.kind, .string u.name, .int .u32 (u.v4 : Int), .int .u16 (u.a0 : Int), .int .u16 (u.a1 : Int), .int .u16 (u.a2 : Int), .int .u16 (u.a3 : Int), .int .u16 (u.a4 : Int), .int .u16 (u.a5 : Int), .int .u16 (u.a6 : Int), .int .u16 (u.a7 : Int), .int .i64 u.port, .bool u.opaq, .slice A n c, .bool u.hasQ, .string u.query, .bool u.hasF, .string u.frag]] w fun e w' => e = .returned (.bool b) ∧ Below w.heap.size w w' := hb ▸ refFew12_any u A n c hn hl w h hf
end Go.Proofs.YtliklhldlofnjaaDoor

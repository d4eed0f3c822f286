/-
  textOf of a number, and (*Fail).Error of a chain.
-/
import Derived.Test.YtabbmbaokefnpaaDoorBld
import Derived.Test.YtabbmbaokefnpaaDoorWord
import Derived.Test.YtabbmbaokefnpaaDoorRefs
import Derived.Defers
import Derived.Recover
import Derived.Deep.LoopGhost
namespace Go.Proofs.YtabbmbaokefnpaaDoor
open Go.RowKit

theorem textOf1_idle (p : Addr) (w : World) :
    CallsD Tryd.prog 40 #[.pointer (some p)] .returning w fun e u' w' => e = .returned (.tuple #[]) ∧ u' = .returning ∧ w = w' := by
  refine callsD_of_wpS Tryd.func40 rfl fun c₀ cs hu => ?_
  apply wpS_seq
  apply wpS_region
  simp [wpOpsS, go_sem, recoverD, hu, Tryd.ntmps40, Exit.thenS]
  refine wpS_cond (t := false) (by simp [Act.eval, Array.replicate]) ?_
  simp only [Bool.false_eq_true, if_false]
  refine wpS_of_wp (wp_skip ?_)
  cases c₀
  simp_all [bodyPostS, results, Tryd.results40]

theorem Tryd.errnoError (n : Int) (w : World) : (Go.method 225 25 (.int .i64 n) "Error").run Tryd.prog w = .ok (13, .int .i64 n) w := by kernel_rfl

set_option maxHeartbeats 1000000 in
set_option maxRecDepth 100000 in
theorem textOf_errno (n : Int) (w : World) (h0 : 1 ≤ n) (h1 : n ≤ 10) :
    Calls Tryd.prog 32 #[.iface 25 (.int .i64 n)] w (Returns (.string (word n)) w) := by
  have hmf : ∀ (fn : Fn) (first cap : Array Value) (w : World), (Instr.makeFunc fn first cap).run Tryd.prog w = .ok (.func fn first cap) w := fun _ _ _ _ => rfl
  have hm := Tryd.errnoError n
  go_enter_defers Tryd.func32, Tryd.ntmps32
  go_wp2_with (go_at_call 13; refine (errno_error n _ h0 h1).mono ?_)
  rintro e w1 ⟨rfl, hb⟩
  simp at hb
  have hc := hb.cell (p := ⟨w.heap.size, 0, none⟩) (by simp)
  have hf := hb.frozen (p := ⟨w.heap.size, 0, none⟩) (by simp)
  simp at hc hf
  go_wp2
  refine leaves_cons (f := 40) (args := #[.pointer (some ⟨w.heap.size, 0, none⟩)]) (by simp) (by simp [go_sem]) ?_
  refine (textOf1_idle ⟨w.heap.size, 0, none⟩ _).mono ?_
  rintro e u' w'' ⟨rfl, rfl, rfl⟩
  have hs : (w1.setCell ⟨w.heap.size, 0, none⟩ (.string (word n))).cell? ⟨w.heap.size, 0, none⟩ = some (.string (word n)) := World.cell?_setCell_same' _ _ _ (by rw [hc]; rfl)
  simp [Leaves, settle, results, Tryd.results32, go_sem, hs]
  exact ⟨rfl, (((Below.refl _ _).alloc (Nat.le_refl _) _).trans (hb.mono (by simp))).setCell (p := ⟨w.heap.size, 0, none⟩) (Nat.le_refl _) _⟩

theorem isBuilder_new (w : World) : Lib.IsBuilder 72 5 w.heap.size w.heap.size (Lib.byteCells []) (w.alloc (.cells #[.pointer none, .slice none 0 0] 72)) :=
  .inl ⟨Nat.le_refl _, .slice none 0 0, heap_alloc_new w _, World.ownsRow_nil _ _ _ _, by simp [Value.ownBlock]⟩

theorem txt_cons (c : ByteArray) (cs : List ByteArray) (t : ByteArray) : (txt (c :: cs) t).data.toList = c.data.toList ++ ([58, 32] ++ (txt cs t).data.toList) := by
  simp [txt]

theorem Tryd.assertNo (n : Int) (w : World) : (Instr.typeAssert (.iface 25 (.int .i64 n)) 28 40 true).run Tryd.prog w = .ok (.tuple #[.pointer none, .bool false]) w := by kernel_rfl
theorem Tryd.assertYes (a : Option Addr) (w : World) : (Instr.typeAssert (.iface 40 (.pointer a)) 28 40 true).run Tryd.prog w = .ok (.tuple #[.pointer a, .bool true]) w := by kernel_rfl

/-- Behind some rounds of Error: what is written, and what is still to come. -/
def ErrRel (w : World) (n : Int) (all : List UInt8) (k : Nat) (p : Value) (wr : World) : Prop :=
  ∃ acc c cs b, cs.length = k ∧ p = .pointer (some ⟨b, 0, none⟩) ∧ Chain w (c :: cs) (some n) (.iface 40 p) ∧ (∀ s ∈ c :: cs, s.size ≤ 60) ∧
    acc ++ (txt (c :: cs) (word n)).data.toList = all ∧ acc.length + 62 * cs.length ≤ 62 * 21 ∧ Lib.IsBuilder 72 5 w.heap.size w.heap.size (Lib.byteCells acc) wr ∧ Below w.heap.size w wr

set_option maxHeartbeats 1000000 in
set_option maxRecDepth 100000 in
theorem fail_error (c : ByteArray) (cs : List ByteArray) (b : Nat) (n : Int) (w : World) (h0 : 1 ≤ n) (h1 : n ≤ 10) (hl : cs.length ≤ 20) (hs : ∀ s ∈ c :: cs, s.size ≤ 60)
    (h : Chain w (c :: cs) (some n) (.iface 40 (.pointer (some ⟨b, 0, none⟩)))) :
    Calls Tryd.prog 22 #[.pointer (some ⟨b, 0, none⟩)] w (Returns (.string (txt (c :: cs) (word n))) w) := by
  have HS := Lib.hid hs
  have HC := Lib.hid h
  clear hs h
  have tN := Tryd.assertNo n
  have tY := Tryd.assertYes
  go_enter Tryd.func22, Tryd.ntmps22
  go_wp2
  go_loopg [0] cs.length (fun k p wr => ErrRel w n (txt (c :: cs) (word n)).data.toList k p wr)
  case atStart =>
    exact ⟨[], c, cs, b, rfl, rfl, HC.out, HS.out, rfl, by simp; omega, isBuilder_new w, (Below.refl _ _).alloc (Nat.le_refl _) _⟩
  case round =>
    obtain ⟨acc, d, ds, b', hk, rfl, hch, hsz, hacc, hlen, hbld, hb⟩ := hrel
    have HZ := Lib.hid hsz
    have HA := Lib.hid hacc
    have HK := Lib.hid hk
    obtain ⟨b2, v', e2, hlt, hc0, hc1, hrest⟩ := hch
    have e3 : b' = b2 := by simpa using e2
    subst e3
    have HR := Lib.hid hrest
    clear hsz hacc hk hrest e2
    have hd : d.size ≤ 60 := HZ.out _ List.mem_cons_self
    have hw2 := word_size n
    have hB := hb.size
    have q0 := (hb.cell (p := ⟨b', 0, none⟩) hlt).trans hc0
    have q1 := (hb.cell (p := ⟨b', 1, none⟩) hlt).trans hc1
    cases ds with
    | nil =>
      obtain rfl : v' = .iface 25 (.int .i64 n) := HR.out
      clear HR
      go_wp2_with fail
      refine (bld_write w.heap.size _ _ d _ hbld (by rw [Lib.byteCells_length]; simp at hlen; omega) hB).mono ?_
      rintro e w1 ⟨rfl, hbld1, hb1⟩
      have k1 := hb.trans hb1
      have q0 := (k1.cell (p := ⟨b', 0, none⟩) hlt).trans hc0
      have q1 := (k1.cell (p := ⟨b', 1, none⟩) hlt).trans hc1
      go_wp2_with fail
      have h2 : (⟨#[58, 32]⟩ : ByteArray).size = 2 := rfl
      refine (bld_write w.heap.size _ _ ⟨#[58, 32]⟩ _ hbld1 (by simp only [List.length_append, Lib.byteCells_length, Lib.strCells_length]; simp at hlen; omega) k1.size).mono ?_
      clear h2
      rintro e w2 ⟨rfl, hbld2, hb2⟩
      have k2 := k1.trans hb2
      have q0 := (k2.cell (p := ⟨b', 0, none⟩) hlt).trans hc0
      have q1 := (k2.cell (p := ⟨b', 1, none⟩) hlt).trans hc1
      go_wp2_with fail
      refine (textOf_errno n _ h0 h1).mono ?_
      rintro e w3 ⟨rfl, hb3⟩
      have hbld3 := isBuilder_below hbld2 hb3
      have k3 := k2.trans (hb3.mono k2.size)
      go_wp2_with fail
      have h2 : (⟨#[58, 32]⟩ : ByteArray).size = 2 := rfl
      refine (bld_write w.heap.size _ _ (word n) _ hbld3 (by simp only [List.length_append, Lib.byteCells_length, Lib.strCells_length]; simp at hlen; omega) k3.size).mono ?_
      clear h2
      rintro e w4 ⟨rfl, hbld4, hb4⟩
      have k4 := k3.trans hb4
      simp only [Lib.strCells_eq, ← Lib.byteCells_append] at hbld4
      have hfin : acc ++ d.data.toList ++ (⟨#[58, 32]⟩ : ByteArray).data.toList ++ (word n).data.toList = (txt (c :: cs) (word n)).data.toList := by
        have := HA.out
        rw [txt_cons] at this
        rw [← this]
        simp [txt]
      have HF := Lib.hid hfin
      clear hfin
      go_wp2_with fail
      refine (bld_string w.heap.size _ _ _ hbld4 k4.size).mono ?_
      rintro e w5 ⟨rfl, hb5⟩
      rw [HF.out]
      go_wp2
      go_ret
      exact ⟨rfl, k4.trans hb5⟩
    | cons d' ds =>
      obtain ⟨b3, v3, rfl, _⟩ := HR.out
      go_wp2_with fail
      refine (bld_write w.heap.size _ _ d _ hbld (by rw [Lib.byteCells_length]; simp at hlen; omega) hB).mono ?_
      rintro e w1 ⟨rfl, hbld1, hb1⟩
      have k1 := hb.trans hb1
      have q0 := (k1.cell (p := ⟨b', 0, none⟩) hlt).trans hc0
      have q1 := (k1.cell (p := ⟨b', 1, none⟩) hlt).trans hc1
      go_wp2_with fail
      have h2 : (⟨#[58, 32]⟩ : ByteArray).size = 2 := rfl
      refine (bld_write w.heap.size _ _ ⟨#[58, 32]⟩ _ hbld1 (by simp only [List.length_append, Lib.byteCells_length, Lib.strCells_length]; simp at hlen; omega) k1.size).mono ?_
      clear h2
      rintro e w2 ⟨rfl, hbld2, hb2⟩
      have k2 := k1.trans hb2
      have q0 := (k2.cell (p := ⟨b', 0, none⟩) hlt).trans hc0
      have q1 := (k2.cell (p := ⟨b', 1, none⟩) hlt).trans hc1
      simp only [Lib.strCells_eq, ← Lib.byteCells_append] at hbld2
      have HB2 := Lib.hid hbld2
      clear hbld2 hbld1 hbld
      go_wp2_with fail
      go_roundg ds.length
      case measure => rw [← HK.out]; simp
      case rel =>
        refine ⟨_, d', ds, b3, rfl, rfl, HR.out, fun s hs => HZ.out s (List.mem_cons_of_mem _ hs), ?_, ?_, HB2.out, k2⟩
        · have := HA.out
          rw [txt_cons] at this
          rw [← this]
          simp
        · have : d.data.toList.length = d.size := by simp
          have : (⟨#[58, 32]⟩ : ByteArray).data.toList.length = 2 := rfl
          simp only [List.length_append, List.length_cons] at *
          omega

set_option maxHeartbeats 1000000 in
set_option maxRecDepth 100000 in
theorem fail_error_nil (w : World) :
    Calls Tryd.prog 22 #[.pointer none] w (Returns (.string ⟨#[]⟩) w) := by
  go_enter Tryd.func22, Tryd.ntmps22
  go_wp2
  refine wp_loop_rounds 1 ?_
  rw [rounds_succ]
  go_wp2_with fail
  refine (bld_string w.heap.size _ [] _ (isBuilder_new w) (by simp)).mono ?_
  rintro e w1 ⟨rfl, hb⟩
  go_wp2
  go_ret
  exact ⟨rfl, ((Below.refl _ _).alloc (Nat.le_refl _) _).trans hb⟩

set_option maxHeartbeats 1000000 in
set_option maxRecDepth 100000 in
theorem fail_error_bare (b : Nat) (w : World) (hlt : b < w.heap.size) (h : w.cell? ⟨b, 1, none⟩ = some .nilIface) :
    Calls Tryd.prog 22 #[.pointer (some ⟨b, 0, none⟩)] w (Returns (.string ⟨#[]⟩) w) := by
  have hc : (w.alloc (.cells #[.pointer none, .slice none 0 0] 72)).cell? ⟨b, 1, none⟩ = some .nilIface :=
    (World.cell?_alloc_lt _ _ ⟨b, 1, none⟩ hlt).trans h
  go_enter Tryd.func22, Tryd.ntmps22
  go_wp2
  refine wp_loop_rounds 1 ?_
  rw [rounds_succ]
  go_wp2_with fail
  refine (bld_string w.heap.size _ [] _ (isBuilder_new w) (by simp)).mono ?_
  rintro e w1 ⟨rfl, hb⟩
  go_wp2
  go_ret
  exact ⟨rfl, ((Below.refl _ _).alloc (Nat.le_refl _) _).trans hb⟩
end Go.Proofs.YtabbmbaokefnpaaDoor

/-
  errors.is and errors.Is, of a chain that ends in a number, against a number.
-/
import Derived.Test.YtcndcdkcbkjbaaaDoorFReflect
namespace Go.Proofs.YtcndcdkcbkjbaaaDoor
open Go.RowKit Go.Extern.Stop Go.Stop Go.Extern

theorem eql_in (P : Program) (w : World) (d : Nat) {ti tn : TypeId} {ms : Array (String × TypeId)} {i : TypeInfo} {k : IntKind} (a b : Int)
    (hi : P.underlying ti = some (.interface ms)) (hn : P.underlying tn = some (.int k)) (hinfo : P.info? tn = some i) (hcomp : i.comparable = true) :
    (Op.equalIn (d + 2) ti (.iface tn (.int k a)) (.iface tn (.int k b))).run P w = .ok (a == b) w := by
  simp [Op.equalIn, run_underlying hi, run_underlying hn, typeInfo, hinfo, hcomp]
/-- Two numbers of one type, as values of an interface. -/
theorem eql_numbers (a b : Int) (w : World) : (binOp .eql 28 (.iface 33 (.int .i64 a)) (.iface 33 (.int .i64 b))).run Tryd.prog w = .ok (.bool (a == b)) w := by
  obtain ⟨i, hi, hc⟩ := Option.map_eq_some_iff.1 (show (Tryd.prog.info? 33).map (·.comparable) = some true by kernel_rfl)
  simp only [binOp]
  simp [Op.equal, Op.maxDepth, eql_in Tryd.prog w 9998 a b Tryd.underlying28 Tryd.underlying33 hi hc]
theorem eql_types (p : Addr) (b : Int) (w : World) : (binOp .eql 28 (.iface 61 (.pointer (some p))) (.iface 33 (.int .i64 b))).run Tryd.prog w = .ok (.bool false) w :=
  run_eql_iface_types _ _ _ _ Tryd.underlying28 (by decide) w
theorem comparableE (w : World) : (callFunc 95 #[.agg #[.pointer (some ⟨5, 33, none⟩)]]).run Tryd.prog w = .ok (.value (.bool true)) w := by kernel_rfl

def IsRel (w : World) (n : Int) (k : Nat) (p : Value) (wr : World) : Prop := wr = w ∧ ∃ cs, cs.length = k ∧ Chain w cs (some n) p

set_option maxHeartbeats 4000000 in
set_option maxRecDepth 100000 in
theorem is1_any (cs : List ByteArray) (n m : Int) (u : TypeId) (x : Value) (w : World) (hc : Chain w cs (some n) (.iface u x)) :
    Calls Tryd.prog 34 #[.iface u x, .iface 33 (.int .i64 m), .bool true] w fun e w' => e = .returned (.bool (n == m)) ∧ w = w' := by
  have HC := Lib.hid hc
  clear hc
  have mU := methodUnwrap
  have isE := assertIsE
  have isF := assertIsF
  have o1E := assertOneE
  have o1F := assertOneF
  have omE := assertManyE
  have eN := eql_numbers
  have eT := eql_types
  go_enter Tryd.func34, Tryd.ntmps34
  go_wp2
  go_loopg [0] cs.length (fun k p wr => IsRel w n k p wr)
  case atStart => exact ⟨rfl, cs, rfl, HC.out⟩
  case round =>
    obtain ⟨rfl, ds, hk, hch⟩ := hrel
    cases ds with
    | nil =>
      obtain rfl : _ = Value.iface 33 (.int .i64 n) := hch
      clear hk
      by_cases hnm : (n == m) = true
      · go_wp2
        go_ret
        exact ⟨by rw [hnm]; rfl, rfl⟩
      · have hf : (n == m) = false := by simpa using hnm
        clear hnm
        go_wp2
        go_ret
        exact ⟨by rw [hf]; rfl, rfl⟩
    | cons d ds =>
      obtain ⟨b, v', rfl, hlt, hc0, hc1, hrest⟩ := hch
      obtain ⟨u2, x2, rfl⟩ := hrest.held
      have HR := Lib.hid hrest
      have HK := Lib.hid hk
      clear hrest hk
      go_wp2_with (go_at_call 92; refine (unwrap_at b _ _ hc1).mono ?_; rintro e w' ⟨rfl, rfl⟩)
      go_roundg ds.length
      case measure => rw [← HK.out]; simp
      case rel => exact ⟨rfl, ds, rfl, HR.out⟩

set_option maxHeartbeats 4000000 in
set_option maxRecDepth 100000 in
theorem is_any (cs : List ByteArray) (n m : Int) (u : TypeId) (x : Value) (w : World) (hc : Chain w cs (some n) (.iface u x)) :
    Calls Tryd.prog 22 #[.iface u x, .iface 33 (.int .i64 m)] w fun e w' => e = .returned (.bool (n == m)) ∧ w = w' := by
  have HC := Lib.hid hc
  clear hc
  have x25 := @run_callFunc_extern Tryd.prog 33 _ ReflectliteType.typeOf Tryd.func33 (by kernel_rfl) (by kernel_rfl) (by kernel_rfl) (by kernel_rfl)
  have tOE := typeOfE
  have mC := methodComparable
  have cE := comparableE
  go_enter Tryd.func22, Tryd.ntmps22
  go_wp2_with (go_at_call 34; refine (is1_any cs n m u x _ HC.out).mono ?_; rintro e w' ⟨rfl, rfl⟩)
  go_ret
  exact ⟨rfl, rfl⟩
end Go.Proofs.YtcndcdkcbkjbaaaDoor

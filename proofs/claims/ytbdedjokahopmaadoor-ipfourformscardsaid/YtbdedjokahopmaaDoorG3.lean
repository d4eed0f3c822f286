/-
  In this text, one behind the other: FReflect, FAs, FAsTop, FWord, FFind, FIs, XCon, ZFig, ZCut, ZNum, ZEnds, ZSplit.
-/
import Derived.Deep.LoopGhost
import Derived.Defers
import Derived.Recover
import Derived.RegionTactic
import Derived.ChangeAlike
import Derived.Deep.RegionWith
import Derived.Test.YtbdedjokahopmaaDoorG2
import Derived.Test.YtbdedjokahopmaaDoorG1
/-
  errors.As by its contracts, at the two targets that package fail uses. Go's own text of errors.As and errors.as is walked.
-/
namespace Go.Proofs.YtbdedjokahopmaaDoor
open Go.RowKit Go.Extern.Stop Go.Stop Go.Extern


theorem valueOfE (t : Addr) (w : World) : (ReflectliteValue.unpack (.iface 66 (.pointer (some t)))).run Tryd.prog w
    = .ok (.agg #[.pointer (some ⟨7, 66, none⟩), .pointer (some ⟨w.heap.size, 0, none⟩), .int .u64 150]) (w.alloc (.cells #[.pointer (some t)] 66)) := by kernel_rfl
theorem typeE (a : Addr) (w : World) : (ReflectliteValue.methodAny (ReflectliteValue.valueError "reflectlite.Value.Type" 0) (fun t _ _ _ => ReflectliteType.toType t) #[.agg #[.pointer (some ⟨7, 66, none⟩), .pointer (some a), .int .u64 150]]).run Tryd.prog w
    = .ok (.iface 68 (.agg #[.pointer (some ⟨7, 66, none⟩)])) w := by kernel_rfl
theorem kindPE (w : World) : ((ReflectliteType.abiMethod fun t => (fun a : Nat => Value.int IntKind.u8 (a : Int)) <$> Rtype.kind t) #[.pointer (some ⟨7, 66, none⟩)]).run Tryd.prog w = .ok (.int .u8 22) w := by kernel_rfl
theorem kindEE (w : World) : ((ReflectliteType.abiMethod fun t => (fun a : Nat => Value.int IntKind.u8 (a : Int)) <$> Rtype.kind t) #[.pointer (some ⟨7, 30, none⟩)]).run Tryd.prog w = .ok (.int .u8 2) w := by kernel_rfl
theorem partsPE (a : Addr) (w : World) : (ReflectliteValue.parts (.agg #[.pointer (some ⟨7, 66, none⟩), .pointer (some a), .int .u64 150])).run Tryd.prog w = .ok (some (66, a, 150)) w := by kernel_rfl
theorem elemTE (w : World) : (ReflectliteType.method ReflectliteType.elem #[.agg #[.pointer (some ⟨7, 66, none⟩)]]).run Tryd.prog w = .ok (.iface 68 (.agg #[.pointer (some ⟨7, 30, none⟩)])) w := by kernel_rfl
theorem implementsE (w : World) : (ReflectliteType.relation "Implements" ReflectliteType.implements_ #[.agg #[.pointer (some ⟨7, 30, none⟩)], .iface 68 (.agg #[.pointer (some ⟨7, 25, none⟩)])]).run Tryd.prog w = .ok (.bool true) w := by kernel_rfl
theorem typeOfE (v : Value) (w : World) : (ReflectliteType.typeOf #[.iface 30 v]).run Tryd.prog w = .ok (.iface 68 (.agg #[.pointer (some ⟨7, 30, none⟩)])) w := by kernel_rfl
theorem elemOfE (w : World) : (Rtype.elem? 66).run Tryd.prog w = .ok (some 30) w := by kernel_rfl
theorem mkE (p : Addr) (w : World) : (ReflectliteValue.mk 30 p ReflectliteValue.flagAddr).run Tryd.prog w = .ok (.agg #[.pointer (some ⟨7, 30, none⟩), .pointer (some p), .int .u64 386]) w := by kernel_rfl
theorem partsAE (a : Addr) (w : World) : (ReflectliteValue.parts (.agg #[.pointer (some ⟨7, 30, none⟩), .pointer (some a), .int .u64 386])).run Tryd.prog w = .ok (some (30, a, 386)) w := by kernel_rfl
theorem partsVE (a : Addr) (w : World) : (ReflectliteValue.parts (.agg #[.pointer (some ⟨7, 30, none⟩), .pointer (some a), .int .u64 130])).run Tryd.prog w = .ok (some (30, a, 130)) w := by kernel_rfl
theorem directE (w : World) : (Rtype.directlyAssignable 30 30).run Tryd.prog w = .ok true w := by kernel_rfl


theorem kindEF (w : World) : ((ReflectliteType.abiMethod fun t => (fun a : Nat => Value.int IntKind.u8 (a : Int)) <$> Rtype.kind t) #[.pointer (some ⟨7, 80, none⟩)]).run Tryd.prog w = .ok (.int .u8 22) w := by kernel_rfl
theorem implementsF (w : World) : (ReflectliteType.relation "Implements" ReflectliteType.implements_ #[.agg #[.pointer (some ⟨7, 80, none⟩)], .iface 68 (.agg #[.pointer (some ⟨7, 25, none⟩)])]).run Tryd.prog w = .ok (.bool true) w := by kernel_rfl
theorem typeOfF (v : Value) (w : World) : (ReflectliteType.typeOf #[.iface 80 v]).run Tryd.prog w = .ok (.iface 68 (.agg #[.pointer (some ⟨7, 80, none⟩)])) w := by kernel_rfl
theorem mkF (p : Addr) (w : World) : (ReflectliteValue.mk 80 p ReflectliteValue.flagAddr).run Tryd.prog w = .ok (.agg #[.pointer (some ⟨7, 80, none⟩), .pointer (some p), .int .u64 406]) w := by kernel_rfl
theorem partsAF (a : Addr) (w : World) : (ReflectliteValue.parts (.agg #[.pointer (some ⟨7, 80, none⟩), .pointer (some a), .int .u64 406])).run Tryd.prog w = .ok (some (80, a, 406)) w := by kernel_rfl
theorem partsVF (a : Addr) (w : World) : (ReflectliteValue.parts (.agg #[.pointer (some ⟨7, 80, none⟩), .pointer (some a), .int .u64 150])).run Tryd.prog w = .ok (some (80, a, 150)) w := by kernel_rfl
theorem directF (w : World) : (Rtype.directlyAssignable 80 80).run Tryd.prog w = .ok true w := by kernel_rfl


theorem valueOfErrno (n : Int) (w : World) : (ReflectliteValue.unpack (.iface 30 (.int .i64 n))).run Tryd.prog w
    = .ok (.agg #[.pointer (some ⟨7, 30, none⟩), .pointer (some ⟨w.heap.size, 0, none⟩), .int .u64 130]) (w.alloc (.cells #[.int .i64 n] 30)) := by kernel_rfl
theorem valueOfFail (e : Addr) (w : World) : (ReflectliteValue.unpack (.iface 80 (.pointer (some e)))).run Tryd.prog w
    = .ok (.agg #[.pointer (some ⟨7, 80, none⟩), .pointer (some ⟨w.heap.size, 0, none⟩), .int .u64 150]) (w.alloc (.cells #[.pointer (some e)] 80)) := by kernel_rfl
theorem assignEE (w : World) : (ReflectliteType.relation "AssignableTo" ReflectliteType.assignableTo #[.agg #[.pointer (some ⟨7, 30, none⟩)], .iface 68 (.agg #[.pointer (some ⟨7, 30, none⟩)])]).run Tryd.prog w = .ok (.bool true) w := by kernel_rfl
theorem assignFF (w : World) : (ReflectliteType.relation "AssignableTo" ReflectliteType.assignableTo #[.agg #[.pointer (some ⟨7, 80, none⟩)], .iface 68 (.agg #[.pointer (some ⟨7, 80, none⟩)])]).run Tryd.prog w = .ok (.bool true) w := by kernel_rfl
theorem assignFE (w : World) : (ReflectliteType.relation "AssignableTo" ReflectliteType.assignableTo #[.agg #[.pointer (some ⟨7, 80, none⟩)], .iface 68 (.agg #[.pointer (some ⟨7, 30, none⟩)])]).run Tryd.prog w = .ok (.bool false) w := by kernel_rfl
theorem assignEF (w : World) : (ReflectliteType.relation "AssignableTo" ReflectliteType.assignableTo #[.agg #[.pointer (some ⟨7, 30, none⟩)], .iface 68 (.agg #[.pointer (some ⟨7, 80, none⟩)])]).run Tryd.prog w = .ok (.bool false) w := by kernel_rfl
theorem methodKind (h : Value) (w : World) : (Go.method 252 68 (.agg #[h]) "Kind").run Tryd.prog w = .ok (93, h) w := by kernel_rfl
theorem methodElem (h : Value) (w : World) : (Go.method 252 68 (.agg #[h]) "Elem").run Tryd.prog w = .ok (100, .agg #[h]) w := by kernel_rfl
theorem methodImplements (h : Value) (w : World) : (Go.method 252 68 (.agg #[h]) "Implements").run Tryd.prog w = .ok (101, .agg #[h]) w := by kernel_rfl
theorem methodAssignableTo (h : Value) (w : World) : (Go.method 252 68 (.agg #[h]) "AssignableTo").run Tryd.prog w = .ok (98, .agg #[h]) w := by kernel_rfl
theorem methodComparable (h : Value) (w : World) : (Go.method 252 68 (.agg #[h]) "Comparable").run Tryd.prog w = .ok (99, .agg #[h]) w := by kernel_rfl
theorem methodUnwrap (a : Addr) (w : World) : (Go.method 252 80 (.pointer (some a)) "Unwrap").run Tryd.prog w = .ok (109, .pointer (some a)) w := by kernel_rfl

theorem assertAsE (n : Int) (w : World) : (Instr.typeAssert (.iface 30 (.int .i64 n)) 25 99 true).run Tryd.prog w = .ok (.tuple #[.nilIface, .bool false]) w := run_typeAssert_lacksB Tryd.underlying99 (by kernel_rfl) (by kernel_rfl) _ _ _
theorem assertAsF (a : Addr) (w : World) : (Instr.typeAssert (.iface 80 (.pointer (some a))) 25 99 true).run Tryd.prog w = .ok (.tuple #[.nilIface, .bool false]) w := run_typeAssert_lacksB Tryd.underlying99 (by kernel_rfl) (by kernel_rfl) _ _ _
theorem assertIsE (n : Int) (w : World) : (Instr.typeAssert (.iface 30 (.int .i64 n)) 25 70 true).run Tryd.prog w = .ok (.tuple #[.nilIface, .bool false]) w := run_typeAssert_lacksB Tryd.underlying70 (by kernel_rfl) (by kernel_rfl) _ _ _
theorem assertIsF (a : Addr) (w : World) : (Instr.typeAssert (.iface 80 (.pointer (some a))) 25 70 true).run Tryd.prog w = .ok (.tuple #[.nilIface, .bool false]) w := run_typeAssert_lacksB Tryd.underlying70 (by kernel_rfl) (by kernel_rfl) _ _ _
theorem assertManyE (n : Int) (w : World) : (Instr.typeAssert (.iface 30 (.int .i64 n)) 25 75 true).run Tryd.prog w = .ok (.tuple #[.nilIface, .bool false]) w := run_typeAssert_lacksB Tryd.underlying75 (by kernel_rfl) (by kernel_rfl) _ _ _
theorem assertManyF (a : Addr) (w : World) : (Instr.typeAssert (.iface 80 (.pointer (some a))) 25 75 true).run Tryd.prog w = .ok (.tuple #[.nilIface, .bool false]) w := run_typeAssert_lacksB Tryd.underlying75 (by kernel_rfl) (by kernel_rfl) _ _ _
theorem assertOneE (n : Int) (w : World) : (Instr.typeAssert (.iface 30 (.int .i64 n)) 25 73 true).run Tryd.prog w = .ok (.tuple #[.nilIface, .bool false]) w := run_typeAssert_lacksB Tryd.underlying73 (by kernel_rfl) (by kernel_rfl) _ _ _
theorem assertOneF (a : Addr) (w : World) : (Instr.typeAssert (.iface 80 (.pointer (some a))) 25 73 true).run Tryd.prog w = .ok (.tuple #[.iface 80 (.pointer (some a)), .bool true]) w := by kernel_rfl
end Go.Proofs.YtbdedjokahopmaaDoor

/-
  errors.as and errors.As by their contracts, at the targets *Errno and **Fail.
-/
namespace Go.Proofs.YtbdedjokahopmaaDoor
open Go.RowKit Go.Extern.Stop Go.Stop Go.Extern

theorem rlm (z : Sem Value) (f : TypeId → Addr → Nat → Nat → Sem Value) (v : Value) :
    ReflectliteValue.method z f #[v] = (do match ← ReflectliteValue.parts v with | none => z | some (t, a, fl) => f t a fl (fl % 32)) := rfl
theorem rls (v x : Value) : ∃ s1 s2 s3 s4 s5 : String, ReflectliteValue.set #[v, x] = (do
    let (some (dst, a, fl), some (src, b, _)) := (← ReflectliteValue.parts v, ← ReflectliteValue.parts x)
      | unsupported (.noEntry s1)
    if fl / ReflectliteValue.flagAddr % 2 == 0 then unsupported (.noEntry s2)
    let val ← loadVar src b
    if ← Rtype.directlyAssignable dst src then storeVar dst a val
    else if ← Rtype.implements dst src then
      if (← Rtype.kind src) == 20 then
        match val with
        | .nilIface => unsupported (.noEntry s3)
        | _ => storeVar dst a val
      else storeVar dst a (.iface src val)
    else panicString (s4 ++ (← Rtype.spelt src) ++ s5 ++ (← Rtype.spelt dst))
    pure (.tuple #[])) := ⟨_, _, _, _, _, rfl⟩

theorem below_set {B : Nat} {w w' : World} (hb : Below B w w') (t : Addr) (v : Value) : Below B (w.setCell t v) (w'.setCell t v) := by
  refine ⟨hb.os, hb.tape, hb.output, by simpa [World.setCell] using hb.size, fun k hk => ?_⟩
  simp only [World.setCell, Array.getElem?_modify, hb.block k hk]


theorem isNilE (a p : Addr) (W : World) (ha : W.cell? a = some (.pointer (some p))) :
    (ReflectliteValue.method (ReflectliteValue.valueError "reflectlite.Value.IsNil" 0) ReflectliteValue.isNil #[.agg #[.pointer (some ⟨7, 66, none⟩), .pointer (some a), .int .u64 150]]).run Tryd.prog W = .ok (.bool false) W := by
  rw [rlm]
  simp only [Sem.run_bind, partsPE, Result.andThen]
  simp [ReflectliteValue.isNil, loadVar, isAgg, underlying, Tryd.underlying66, ha, Result.andThen]
theorem elemVE (a p : Addr) (W : World) (ha : W.cell? a = some (.pointer (some p))) :
    (ReflectliteValue.method (ReflectliteValue.valueError "reflectlite.Value.Elem" 0) ReflectliteValue.elem #[.agg #[.pointer (some ⟨7, 66, none⟩), .pointer (some a), .int .u64 150]]).run Tryd.prog W
      = .ok (.agg #[.pointer (some ⟨7, 30, none⟩), .pointer (some p), .int .u64 386]) W := by
  rw [rlm]
  simp only [Sem.run_bind, partsPE, Result.andThen]
  simp [ReflectliteValue.elem, loadVar, isAgg, underlying, Tryd.underlying66, ha, Result.andThen, elemOfE, mkE]
theorem setE (ta b : Addr) (n : Int) (old : Value) (W : World) (hb : W.cell? b = some (.int .i64 n)) (ht : W.cell? ta = some old) (hf : W.frozen? ta = false) :
    (ReflectliteValue.set #[.agg #[.pointer (some ⟨7, 30, none⟩), .pointer (some ta), .int .u64 386], .agg #[.pointer (some ⟨7, 30, none⟩), .pointer (some b), .int .u64 130]]).run Tryd.prog W
      = .ok (.tuple #[]) (W.setCell ta (.int .i64 n)) := by
  obtain ⟨s1, s2, s3, s4, s5, hrls⟩ := rls (.agg #[.pointer (some ⟨7, 30, none⟩), .pointer (some ta), .int .u64 386]) (.agg #[.pointer (some ⟨7, 30, none⟩), .pointer (some b), .int .u64 130])
  rw [hrls]
  simp only [Sem.run_bind, partsAE, partsVE, Result.andThen]
  simp [ReflectliteValue.flagAddr, loadVar, isAgg, underlying, Tryd.underlying30, hb, Result.andThen, directE, storeVar, Value.cells, storeCells, Addr.add]
  rw [run_store Tryd.prog W ta _ _ (by rfl)]
  simp [ht, hf]


theorem setF (ta b : Addr) (e : Addr) (old : Value) (W : World) (hb : W.cell? b = some (.pointer (some e))) (ht : W.cell? ta = some old) (hf : W.frozen? ta = false) :
    (ReflectliteValue.set #[.agg #[.pointer (some ⟨7, 80, none⟩), .pointer (some ta), .int .u64 406], .agg #[.pointer (some ⟨7, 80, none⟩), .pointer (some b), .int .u64 150]]).run Tryd.prog W
      = .ok (.tuple #[]) (W.setCell ta (.pointer (some e))) := by
  obtain ⟨s1, s2, s3, s4, s5, hrls⟩ := rls (.agg #[.pointer (some ⟨7, 80, none⟩), .pointer (some ta), .int .u64 406]) (.agg #[.pointer (some ⟨7, 80, none⟩), .pointer (some b), .int .u64 150])
  rw [hrls]
  simp only [Sem.run_bind, partsAF, partsVF, Result.andThen]
  simp [ReflectliteValue.flagAddr, loadVar, isAgg, underlying, Tryd.underlying80, hb, Result.andThen, directF, storeVar, Value.cells, storeCells, Addr.add]
  rw [run_store Tryd.prog W ta _ _ (by rfl)]
  simp [ht, hf]


/-- What errors.As tells of a chain for a number. -/
def AsPost (w : World) (t : Addr) (o : Option Int) (e : Ending) (w' : World) : Prop :=
  match o with
  | some n => e = .returned (.bool true) ∧ Below w.heap.size (w.setCell t (.int .i64 n)) w'
  | none => e = .returned (.bool false) ∧ Below w.heap.size w w'

def AsRel (w w1 : World) (o : Option Int) (k : Nat) (p : Value) (wr : World) : Prop :=
  wr = w1 ∧ p ≠ .nilIface ∧ ∃ cs, cs.length = k ∧ Chain w cs o p

set_option maxHeartbeats 4000000 in
set_option maxRecDepth 100000 in
theorem as1_errno (cs : List ByteArray) (o : Option Int) (u : TypeId) (x : Value) (t a : Addr) (old : Value) (w : World) (hc : Chain w cs o (.iface u x)) (ha : w.cell? a = some (.pointer (some t)))
    (ht0 : w.cell? t = some old) (hf0 : w.frozen? t = false) :
    Calls Tryd.prog 51 #[.iface u x, .iface 66 (.pointer (some t)), .agg #[.pointer (some ⟨7, 66, none⟩), .pointer (some a), .int .u64 150], .iface 68 (.agg #[.pointer (some ⟨7, 30, none⟩)])] w (AsPost w t o) := by
  have HC := Lib.hid hc
  clear hc
  have x25 := @run_callFunc_extern Tryd.prog 29 _ ReflectliteType.typeOf Tryd.func29 (by kernel_rfl) (by kernel_rfl) (by kernel_rfl) (by kernel_rfl)
  have x27 := @run_callFunc_extern Tryd.prog 48 _ (fun args => ReflectliteValue.unpack (args.getD 0 (.tuple #[]))) Tryd.func48 (by kernel_rfl) (by kernel_rfl) (by kernel_rfl) (by kernel_rfl)
  have x65 := @run_callFunc_extern Tryd.prog 98 _ (ReflectliteType.relation "AssignableTo" ReflectliteType.assignableTo) Tryd.func98 (by kernel_rfl) (by kernel_rfl) (by kernel_rfl) (by kernel_rfl)
  have x37 := @run_callFunc_extern Tryd.prog 59 _ (ReflectliteValue.method (ReflectliteValue.valueError "reflectlite.Value.Elem" 0) ReflectliteValue.elem) Tryd.func59 (by kernel_rfl) (by kernel_rfl) (by kernel_rfl) (by kernel_rfl)
  have x38 := @run_callFunc_extern Tryd.prog 60 _ ReflectliteValue.set Tryd.func60 (by kernel_rfl) (by kernel_rfl) (by kernel_rfl) (by kernel_rfl)
  have tOE := typeOfE
  have tOF := typeOfF
  have mA := methodAssignableTo
  have aEE := assignEE
  have aFE := assignFE
  have mU := methodUnwrap
  have asE := assertAsE
  have asF := assertAsF
  have o1E := assertOneE
  have o1F := assertOneF
  have omE := assertManyE
  have vE := valueOfErrno
  have hal : a.block < w.heap.size := by
    rcases Nat.lt_or_ge a.block w.heap.size with h | h
    · exact h
    · simp [World.cell?, Array.getElem?_eq_none h] at ha
  have htl : t.block < w.heap.size := by
    rcases Nat.lt_or_ge t.block w.heap.size with h | h
    · exact h
    · simp [World.cell?, Array.getElem?_eq_none h] at ht0
  have el := elemVE a t (w.alloc (.cells #[.pointer (some ⟨7, 66, none⟩), .pointer (some a), .int .u64 150] 87)) (by rw [World.cell?_alloc_lt _ _ a hal]; exact ha)
  go_enter Tryd.func51, Tryd.ntmps51
  go_wp2
  go_loopg [0] cs.length (fun k p wr => AsRel w (w.alloc (.cells #[.pointer (some ⟨7, 66, none⟩), .pointer (some a), .int .u64 150] 87)) o k p wr)
  case atStart => exact ⟨rfl, by simp, cs, rfl, HC.out⟩
  case round =>
    obtain ⟨rfl, hp, ds, hk, hch⟩ := hrel
    cases ds with
    | nil =>
      cases o with
      | none => exact absurd hch hp
      | some n =>
        obtain rfl : _ = Value.iface 30 (.int .i64 n) := hch
        clear hp hk
        have st := setE t ⟨w.heap.size + 1, 0, none⟩ n old ((w.alloc (.cells #[.pointer (some ⟨7, 66, none⟩), .pointer (some a), .int .u64 150] 87)).alloc (.cells #[.int .i64 n] 30))
          (by rw [World.cell?_alloc_at _ _ _ _ (by simp)]; rfl)
          (by rw [World.cell?_alloc_lt _ _ t (by simp; omega), World.cell?_alloc_lt _ _ t htl]; exact ht0)
          (by rw [World.frozen?_alloc_old _ _ t (by simp; omega), World.frozen?_alloc_old _ _ t (Nat.ne_of_lt htl)]; exact hf0)
        go_wp2
        go_ret
        refine ⟨rfl, ?_⟩
        first | exact below_set (((Below.refl _ _).alloc (Nat.le_refl _) _).alloc (by simp) _) t _ | exact ((Below.refl _ _).alloc (by simp [World.setCell]) _).alloc (by simp [World.setCell]) _
    | cons d ds =>
      obtain ⟨b, v', rfl, hlt, hc0, hc1, hrest⟩ := hch
      have HR := Lib.hid hrest
      have HK := Lib.hid hk
      have hq := (World.cell?_alloc_lt w (.cells #[.pointer (some ⟨7, 66, none⟩), .pointer (some a), .int .u64 150] 87) ⟨b, 1, none⟩ hlt).trans hc1
      clear hrest hk hp
      by_cases hv : v' = .nilIface
      · subst hv
        have ho : ds = [] ∧ o = none := by
          cases ds with
          | nil =>
            cases o with
            | none => exact ⟨rfl, rfl⟩
            | some n => exact absurd HR.out (by intro h; cases h)
          | cons e es => obtain ⟨_, _, h, _⟩ := HR.out; cases h
        obtain ⟨rfl, rfl⟩ := ho
        go_wp2_with (go_at_call 109; refine (unwrap_at b _ _ hq).mono ?_; rintro e w' ⟨rfl, rfl⟩)
        go_ret
        exact ⟨rfl, (Below.refl _ _).alloc (Nat.le_refl _) _⟩
      · obtain ⟨u2, x2, rfl⟩ : ∃ u2 x2, v' = .iface u2 x2 := by
          cases ds with
          | nil =>
            cases o with
            | none => exact absurd HR.out hv
            | some n => exact ⟨_, _, HR.out⟩
          | cons e es => obtain ⟨_, _, h, _⟩ := HR.out; exact ⟨_, _, h⟩
        clear hv
        go_wp2_with (go_at_call 109; refine (unwrap_at b _ _ hq).mono ?_; rintro e w' ⟨rfl, rfl⟩)
        go_roundg ds.length
        case measure => rw [← HK.out]; simp
        case rel => exact ⟨rfl, by simp, ds, rfl, HR.out⟩

/-- What errors.As tells of a chain for a Fail. -/
def AsPostF (w : World) (t : Addr) (x : Option Addr) (e : Ending) (w' : World) : Prop :=
  match x with
  | some p => e = .returned (.bool true) ∧ Below w.heap.size (w.setCell t (.pointer (some p))) w'
  | none => e = .returned (.bool false) ∧ Below w.heap.size w w'

theorem AsPost.of {w w2 : World} (hb : Below w.heap.size w w2) {t : Addr} {o : Option Int} {e : Ending} {w' : World} (h : AsPost w2 t o e w') : AsPost w t o e w' := by
  cases o with
  | none => exact ⟨h.1, hb.trans (h.2.mono hb.size)⟩
  | some n => exact ⟨h.1, (below_set hb t _).trans (h.2.mono hb.size)⟩
theorem AsPostF.of {w w2 : World} (hb : Below w.heap.size w w2) {t : Addr} {o : Option Addr} {e : Ending} {w' : World} (h : AsPostF w2 t o e w') : AsPostF w t o e w' := by
  cases o with
  | none => exact ⟨h.1, hb.trans (h.2.mono hb.size)⟩
  | some n => exact ⟨h.1, (below_set hb t _).trans (h.2.mono hb.size)⟩
theorem AsPost.ret {w : World} {t : Addr} {o : Option Int} {e : Ending} {w' : World} (h : AsPost w t o e w') : ∃ b, e = .returned (.bool b) := by
  cases o with
  | none => exact ⟨_, h.1⟩
  | some n => exact ⟨_, h.1⟩
theorem AsPostF.ret {w : World} {t : Addr} {o : Option Addr} {e : Ending} {w' : World} (h : AsPostF w t o e w') : ∃ b, e = .returned (.bool b) := by
  cases o with
  | none => exact ⟨_, h.1⟩
  | some n => exact ⟨_, h.1⟩
end Go.Proofs.YtbdedjokahopmaaDoor

/-
  errors.As by its contracts, at the targets *Errno and **Fail.
-/
namespace Go.Proofs.YtbdedjokahopmaaDoor
open Go.RowKit Go.Extern.Stop Go.Stop Go.Extern


set_option maxHeartbeats 4000000 in
set_option maxRecDepth 100000 in
theorem as_errno (cs : List ByteArray) (o : Option Int) (u : TypeId) (x : Value) (t : Addr) (old : Value) (w : World) (hc : Chain w cs o (.iface u x))
    (hg : w.cell? ⟨0, 0, none⟩ = some (.iface 68 (.agg #[.pointer (some ⟨7, 25, none⟩)]))) (ht0 : w.cell? t = some old) (hf0 : w.frozen? t = false) :
    Calls Tryd.prog 40 #[.iface u x, .iface 66 (.pointer (some t))] w (AsPost w t o) := by
  have HC := Lib.hid hc
  clear hc
  have x25 := @run_callFunc_extern Tryd.prog 29 _ ReflectliteType.typeOf Tryd.func29 (by kernel_rfl) (by kernel_rfl) (by kernel_rfl) (by kernel_rfl)
  have x27 := @run_callFunc_extern Tryd.prog 48 _ (fun args => ReflectliteValue.unpack (args.getD 0 (.tuple #[]))) Tryd.func48 (by kernel_rfl) (by kernel_rfl) (by kernel_rfl) (by kernel_rfl)
  have x65 := @run_callFunc_extern Tryd.prog 98 _ (ReflectliteType.relation "AssignableTo" ReflectliteType.assignableTo) Tryd.func98 (by kernel_rfl) (by kernel_rfl) (by kernel_rfl) (by kernel_rfl)
  have x37 := @run_callFunc_extern Tryd.prog 59 _ (ReflectliteValue.method (ReflectliteValue.valueError "reflectlite.Value.Elem" 0) ReflectliteValue.elem) Tryd.func59 (by kernel_rfl) (by kernel_rfl) (by kernel_rfl) (by kernel_rfl)
  have x38 := @run_callFunc_extern Tryd.prog 60 _ ReflectliteValue.set Tryd.func60 (by kernel_rfl) (by kernel_rfl) (by kernel_rfl) (by kernel_rfl)
  have x28 := @run_callFunc_extern Tryd.prog 49 _ (ReflectliteValue.methodAny (ReflectliteValue.valueError "reflectlite.Value.Type" 0) (fun t _ _ _ => ReflectliteType.toType t)) Tryd.func49 (by kernel_rfl) (by kernel_rfl) (by kernel_rfl) (by kernel_rfl)
  have x29 := @run_callFunc_extern Tryd.prog 50 _ (ReflectliteValue.method (ReflectliteValue.valueError "reflectlite.Value.IsNil" 0) ReflectliteValue.isNil) Tryd.func50 (by kernel_rfl) (by kernel_rfl) (by kernel_rfl) (by kernel_rfl)
  have x57 := @run_callFunc_extern Tryd.prog 93 _ (ReflectliteType.abiMethod fun t => do pure (.int .u8 (← Rtype.kind t))) Tryd.func93 (by kernel_rfl) (by kernel_rfl) (by kernel_rfl) (by kernel_rfl)
  have x67 := @run_callFunc_extern Tryd.prog 100 _ (ReflectliteType.method ReflectliteType.elem) Tryd.func100 (by kernel_rfl) (by kernel_rfl) (by kernel_rfl) (by kernel_rfl)
  have x68 := @run_callFunc_extern Tryd.prog 101 _ (ReflectliteType.relation "Implements" ReflectliteType.implements_) Tryd.func101 (by kernel_rfl) (by kernel_rfl) (by kernel_rfl) (by kernel_rfl)
  have f1 := valueOfE
  have f2 := typeE
  have f3 := kindPE
  have f4 := kindEE
  have f5 := elemTE
  have f6 := implementsE
  have mK := methodKind
  have mE := methodElem
  have mI := methodImplements
  have htl : t.block < w.heap.size := by
    rcases Nat.lt_or_ge t.block w.heap.size with h | h
    · exact h
    · simp [World.cell?, Array.getElem?_eq_none h] at ht0
  have hgl : 0 < w.heap.size := by
    rcases Nat.lt_or_ge 0 w.heap.size with h | h
    · exact h
    · simp [World.cell?, Array.getElem?_eq_none h] at hg
  have n8 := isNilE ⟨w.heap.size, 0, none⟩ t ((w.alloc (.cells #[.pointer (some t)] 66)).alloc (.cells #[.pointer (some ⟨7, 66, none⟩), .pointer (some ⟨w.heap.size, 0, none⟩), .int .u64 150] 87)) (by simp)
  have hg2 : ((w.alloc (.cells #[.pointer (some t)] 66)).alloc (.cells #[.pointer (some ⟨7, 66, none⟩), .pointer (some ⟨w.heap.size, 0, none⟩), .int .u64 150] 87)).cell? ⟨0, 0, none⟩ = some (.iface 68 (.agg #[.pointer (some ⟨7, 25, none⟩)])) := by
    rw [World.cell?_alloc_lt _ _ ⟨0, 0, none⟩ (Nat.lt_of_lt_of_le hgl (by simp)), World.cell?_alloc_lt _ _ ⟨0, 0, none⟩ hgl]; exact hg
  have hwb : Below w.heap.size w ((w.alloc (.cells #[.pointer (some t)] 66)).alloc (.cells #[.pointer (some ⟨7, 66, none⟩), .pointer (some ⟨w.heap.size, 0, none⟩), .int .u64 150] 87)) := ((Below.refl _ _).alloc (Nat.le_refl _) _).alloc (by simp) _
  have ht2 := (hwb.cell (p := t) htl).trans ht0
  have hf2 := (hwb.frozen (p := t) htl).trans hf0
  clear ht0 hf0 hg
  go_enter Tryd.func40, Tryd.ntmps40
  go_wp2_with (go_at_call 51; refine (as1_errno cs o u x t ⟨w.heap.size, 0, none⟩ old _ (HC.out.below hwb) (by simp) ht2 hf2).mono ?_)
  intro e w' hpost
  obtain ⟨b, rfl⟩ := hpost.ret
  have HP := Lib.hid (AsPost.of hwb hpost)
  clear hpost
  go_wp2
  go_ret
  exact HP.out


end Go.Proofs.YtbdedjokahopmaaDoor
/-
  The word of an error's number.
-/
namespace Go.Proofs.YtbdedjokahopmaaDoor
open Go.RowKit

/-- An error's word. -/
def word (n : Int) : ByteArray := ([⟨#[111, 107]⟩, ⟨#[97, 114, 103, 117, 109, 101, 110, 116]⟩, ⟨#[102, 111, 114, 109]⟩, ⟨#[104, 111, 115, 116]⟩, ⟨#[112, 111, 114, 116]⟩, ⟨#[98, 97, 115, 101]⟩, ⟨#[116, 111, 111, 32, 108, 111, 110, 103]⟩, ⟨#[115, 116, 97, 108, 101]⟩, ⟨#[102, 117, 108, 108]⟩, ⟨#[99, 108, 111, 115, 101, 100]⟩, ⟨#[110, 111, 110, 101]⟩] : List ByteArray).getD n.toNat ⟨#[]⟩
theorem word_size (n : Int) : (word n).size ≤ 8 := by
  unfold word
  rcases Nat.lt_or_ge n.toNat 11 with h | h
  · have : ∀ k, k < 11 → (([⟨#[111, 107]⟩, ⟨#[97, 114, 103, 117, 109, 101, 110, 116]⟩, ⟨#[102, 111, 114, 109]⟩, ⟨#[104, 111, 115, 116]⟩, ⟨#[112, 111, 114, 116]⟩, ⟨#[98, 97, 115, 101]⟩, ⟨#[116, 111, 111, 32, 108, 111, 110, 103]⟩, ⟨#[115, 116, 97, 108, 101]⟩, ⟨#[102, 117, 108, 108]⟩, ⟨#[99, 108, 111, 115, 101, 100]⟩, ⟨#[110, 111, 110, 101]⟩] : List ByteArray).getD k ⟨#[]⟩).size ≤ 8 := by decide
    exact this _ h
  · rw [List.getD_eq_getElem?_getD, List.getElem?_eq_none h]; decide

def Returns (v : Value) (w : World) (e : Ending) (w' : World) : Prop := e = .returned v ∧ Below w.heap.size w w'

end Go.Proofs.YtbdedjokahopmaaDoor

/-
  find of package fail, at both of its types, and Code.
-/
namespace Go.Proofs.YtbdedjokahopmaaDoor
open Go.RowKit

/-- The variable errors.errorType holds its handle. -/
def Ready (w : World) : Prop := w.cell? ⟨0, 0, none⟩ = some (.iface 68 (.agg #[.pointer (some ⟨7, 25, none⟩)]))
theorem Ready.lt {w : World} (h : Ready w) : 0 < w.heap.size := by
  rcases Nat.lt_or_ge 0 w.heap.size with h' | h'
  · exact h'
  · simp [Ready, World.cell?, Array.getElem?_eq_none h'] at h
theorem Ready.below {w w' : World} (h : Ready w) (hb : Below w.heap.size w w') : Ready w' := (hb.cell (p := ⟨0, 0, none⟩) h.lt).trans h


theorem find1_idleE (p q : Addr) (w : World) :
    CallsD Tryd.prog 39 #[.pointer (some p), .pointer (some q)] .returning w fun e u' w' => e = .returned (.tuple #[]) ∧ u' = .returning ∧ w = w' := by
  refine callsD_of_wpS Tryd.func39 rfl fun c₀ cs hu => ?_
  apply wpS_seq
  apply wpS_region
  simp [wpOpsS, go_sem, recoverD, hu, Tryd.ntmps39, Exit.thenS]
  refine wpS_cond (t := false) (by simp [Act.eval, Array.replicate]) ?_
  simp only [Bool.false_eq_true, if_false]
  refine wpS_of_wp (wp_skip ?_)
  cases c₀
  simp_all [bodyPostS, results, Tryd.results39]

/-- What find leaves: its two results, and nothing old turned. -/
def FindPostE (w : World) (v : Value) (b : Bool) (e : Ending) (w' : World) : Prop := e = .returned (.tuple #[v, .bool b]) ∧ Below w.heap.size w w'


/-- What find leaves: its two results, and nothing old turned. -/
def FindPostF (w : World) (v : Value) (b : Bool) (e : Ending) (w' : World) : Prop := e = .returned (.tuple #[v, .bool b]) ∧ Below w.heap.size w w'


set_option maxHeartbeats 2000000 in
set_option maxRecDepth 100000 in
theorem find_errno (cs : List ByteArray) (n : Int) (u : TypeId) (x : Value) (w : World) (hc : Chain w cs (some n) (.iface u x)) (hg : Ready w) :
    Calls Tryd.prog 24 #[.iface u x] w (FindPostE w (.int .i64 n) true) := by
  have hmf : ∀ (fn : Fn) (first cap : Array Value) (w : World), (Instr.makeFunc fn first cap).run Tryd.prog w = .ok (.func fn first cap) w := fun _ _ _ _ => rfl
  have HC := Lib.hid hc
  clear hc
  have hwb : Below w.heap.size w ((w.alloc (.cells #[.int .i64 0] 30)).alloc (.cells #[.bool false] 4)) := ((Below.refl _ _).alloc (Nat.le_refl _) _).alloc (by simp) _
  have hg2 : Ready ((w.alloc (.cells #[.int .i64 0] 30)).alloc (.cells #[.bool false] 4)) := hg.below hwb
  have hc0 : ((w.alloc (.cells #[.int .i64 0] 30)).alloc (.cells #[.bool false] 4)).cell? ⟨w.heap.size, 0, none⟩ = some (.int .i64 0) := by simp
  have hf0 : ((w.alloc (.cells #[.int .i64 0] 30)).alloc (.cells #[.bool false] 4)).frozen? ⟨w.heap.size, 0, none⟩ = false := by simp
  have HG := Lib.hid hg
  clear hg
  go_enter_defers Tryd.func24, Tryd.ntmps24
  go_wp2_with (go_at_call 40; refine (as_errno cs (some n) u x ⟨w.heap.size, 0, none⟩ _ _ (HC.out.below hwb) hg2 hc0 hf0).mono ?_)
  rintro e w1 ⟨rfl, hb⟩
  have hs0 : w1.cell? ⟨w.heap.size, 0, none⟩ = some (.int .i64 n) := (hb.cell (p := ⟨w.heap.size, 0, none⟩) (by simp; omega)).trans (World.cell?_setCell_same' _ _ _ (by rw [hc0]; rfl))
  have hs1 : w1.cell? ⟨w.heap.size + 1, 0, none⟩ = some (.bool false) := (hb.cell (p := ⟨w.heap.size + 1, 0, none⟩) (by simp)).trans ((World.cell?_setCell_other _ ⟨w.heap.size, 0, none⟩ ⟨w.heap.size + 1, 0, none⟩ _ (by simp)).trans (by simp))
  have hz0 : w1.frozen? ⟨w.heap.size, 0, none⟩ = false := (hb.frozen (p := ⟨w.heap.size, 0, none⟩) (by simp; omega)).trans ((World.frozen?_setCell _ _ _ _).trans hf0)
  have hz1 : w1.frozen? ⟨w.heap.size + 1, 0, none⟩ = false := (hb.frozen (p := ⟨w.heap.size + 1, 0, none⟩) (by simp)).trans ((World.frozen?_setCell _ _ _ _).trans (by simp))
  have hbw : Below w.heap.size w w1 := ((((Below.refl _ _).alloc (Nat.le_refl _) _).alloc (by simp) _).setCell (p := ⟨w.heap.size, 0, none⟩) (Nat.le_refl _) _).trans (hb.mono (by simp; omega))
  clear hb
  go_wp2
  go_region
  all_goals
    go_wp2
    refine leaves_cons (f := 39) (args := #[.pointer (some ⟨w.heap.size, 0, none⟩), .pointer (some ⟨w.heap.size + 1, 0, none⟩)]) (by simp) (by simp [go_sem]) ?_
    refine (find1_idleE ⟨w.heap.size, 0, none⟩ ⟨w.heap.size + 1, 0, none⟩ _).mono ?_
    rintro e u' w'' ⟨rfl, rfl, rfl⟩
    simp [Leaves, settle, results, Tryd.results24, go_sem, hs0, hs1]
    exact ⟨rfl, (((hbw.setCell (p := ⟨w.heap.size + 1, 0, none⟩) (Nat.le_succ _) _).setCell (p := ⟨w.heap.size, 0, none⟩) (Nat.le_refl _) _).setCell (p := ⟨w.heap.size + 1, 0, none⟩) (Nat.le_succ _) _).drew⟩


set_option maxHeartbeats 2000000 in
set_option maxRecDepth 100000 in
theorem find_errno_no (cs : List ByteArray) (u : TypeId) (x : Value) (w : World) (hc : Chain w cs none (.iface u x)) (hg : Ready w) :
    Calls Tryd.prog 24 #[.iface u x] w (FindPostE w (.int .i64 0) false) := by
  have hmf : ∀ (fn : Fn) (first cap : Array Value) (w : World), (Instr.makeFunc fn first cap).run Tryd.prog w = .ok (.func fn first cap) w := fun _ _ _ _ => rfl
  have HC := Lib.hid hc
  clear hc
  have hwb : Below w.heap.size w ((w.alloc (.cells #[.int .i64 0] 30)).alloc (.cells #[.bool false] 4)) := ((Below.refl _ _).alloc (Nat.le_refl _) _).alloc (by simp) _
  have hg2 : Ready ((w.alloc (.cells #[.int .i64 0] 30)).alloc (.cells #[.bool false] 4)) := hg.below hwb
  have hc0 : ((w.alloc (.cells #[.int .i64 0] 30)).alloc (.cells #[.bool false] 4)).cell? ⟨w.heap.size, 0, none⟩ = some (.int .i64 0) := by simp
  have hf0 : ((w.alloc (.cells #[.int .i64 0] 30)).alloc (.cells #[.bool false] 4)).frozen? ⟨w.heap.size, 0, none⟩ = false := by simp
  have HG := Lib.hid hg
  clear hg
  go_enter_defers Tryd.func24, Tryd.ntmps24
  go_wp2_with (go_at_call 40; refine (as_errno cs none u x ⟨w.heap.size, 0, none⟩ _ _ (HC.out.below hwb) hg2 hc0 hf0).mono ?_)
  rintro e w1 ⟨rfl, hb⟩
  have hs0 : w1.cell? ⟨w.heap.size, 0, none⟩ = some (.int .i64 0) := (hb.cell (p := ⟨w.heap.size, 0, none⟩) (by simp; omega)).trans hc0
  have hs1 : w1.cell? ⟨w.heap.size + 1, 0, none⟩ = some (.bool false) := (hb.cell (p := ⟨w.heap.size + 1, 0, none⟩) (by simp)).trans (by simp)
  have hz0 : w1.frozen? ⟨w.heap.size, 0, none⟩ = false := (hb.frozen (p := ⟨w.heap.size, 0, none⟩) (by simp; omega)).trans hf0
  have hz1 : w1.frozen? ⟨w.heap.size + 1, 0, none⟩ = false := (hb.frozen (p := ⟨w.heap.size + 1, 0, none⟩) (by simp)).trans (by simp)
  have hbw : Below w.heap.size w w1 := ((((Below.refl _ _).alloc (Nat.le_refl _) _).alloc (by simp) _)).trans (hb.mono (by simp; omega))
  clear hb
  go_wp2
  go_region
  all_goals
    go_wp2
    refine leaves_cons (f := 39) (args := #[.pointer (some ⟨w.heap.size, 0, none⟩), .pointer (some ⟨w.heap.size + 1, 0, none⟩)]) (by simp) (by simp [go_sem]) ?_
    refine (find1_idleE ⟨w.heap.size, 0, none⟩ ⟨w.heap.size + 1, 0, none⟩ _).mono ?_
    rintro e u' w'' ⟨rfl, rfl, rfl⟩
    simp [Leaves, settle, results, Tryd.results24, go_sem, hs0, hs1]
    exact ⟨rfl, (((hbw.setCell (p := ⟨w.heap.size + 1, 0, none⟩) (Nat.le_succ _) _).setCell (p := ⟨w.heap.size, 0, none⟩) (Nat.le_refl _) _).setCell (p := ⟨w.heap.size + 1, 0, none⟩) (Nat.le_succ _) _).drew⟩


set_option maxHeartbeats 400000 in
theorem code_nil (w : World) : Calls Tryd.prog 11 #[.nilIface] w fun e w' => e = .returned (.int .i64 0) ∧ w = w' := by
  go_enter Tryd.func11, Tryd.ntmps11
  go_wp2
  go_ret
  exact ⟨rfl, rfl⟩

set_option maxHeartbeats 400000 in
theorem code_some (cs : List ByteArray) (n : Int) (u : TypeId) (x : Value) (w : World) (hc : Chain w cs (some n) (.iface u x)) (hg : Ready w) :
    Calls Tryd.prog 11 #[.iface u x] w (Returns (.int .i64 n) w) := by
  have HC := Lib.hid hc
  have HG := Lib.hid hg
  clear hc hg
  go_enter Tryd.func11, Tryd.ntmps11
  go_wp2_with (go_at_call 24; refine (find_errno cs n u x _ HC.out HG.out).mono ?_; rintro e w1 ⟨rfl, hb⟩)
  go_ret
  exact ⟨rfl, hb⟩

set_option maxHeartbeats 400000 in
theorem code_none (cs : List ByteArray) (u : TypeId) (x : Value) (w : World) (hc : Chain w cs none (.iface u x)) (hg : Ready w) :
    Calls Tryd.prog 11 #[.iface u x] w (Returns (.int .i64 10) w) := by
  have HC := Lib.hid hc
  have HG := Lib.hid hg
  clear hc hg
  go_enter Tryd.func11, Tryd.ntmps11
  go_wp2_with (go_at_call 24; refine (find_errno_no cs u x _ HC.out HG.out).mono ?_; rintro e w1 ⟨rfl, hb⟩)
  go_ret
  exact ⟨rfl, hb⟩

end Go.Proofs.YtbdedjokahopmaaDoor
/-
  errors.is and errors.Is, of a chain that ends in a number, against a number.
-/
namespace Go.Proofs.YtbdedjokahopmaaDoor
open Go.RowKit Go.Extern.Stop Go.Stop Go.Extern

theorem eql_in (P : Program) (w : World) (d : Nat) {ti tn : TypeId} {ms : Array (String × TypeId)} {i : TypeInfo} {k : IntKind} (a b : Int)
    (hi : P.underlying ti = some (.interface ms)) (hn : P.underlying tn = some (.int k)) (hinfo : P.info? tn = some i) (hcomp : i.comparable = true) :
    (Op.equalIn (d + 2) ti (.iface tn (.int k a)) (.iface tn (.int k b))).run P w = .ok (a == b) w := by
  simp [Op.equalIn, run_underlying hi, run_underlying hn, typeInfo, hinfo, hcomp]
/-- Two numbers of one type, as values of an interface. -/
theorem eql_numbers (a b : Int) (w : World) : (binOp .eql 25 (.iface 30 (.int .i64 a)) (.iface 30 (.int .i64 b))).run Tryd.prog w = .ok (.bool (a == b)) w := by
  obtain ⟨i, hi, hc⟩ := Option.map_eq_some_iff.1 (show (Tryd.prog.info? 30).map (·.comparable) = some true by kernel_rfl)
  simp only [binOp]
  simp [Op.equal, Op.maxDepth, eql_in Tryd.prog w 9998 a b Tryd.underlying25 Tryd.underlying30 hi hc]
theorem eql_types (p : Addr) (b : Int) (w : World) : (binOp .eql 25 (.iface 80 (.pointer (some p))) (.iface 30 (.int .i64 b))).run Tryd.prog w = .ok (.bool false) w :=
  run_eql_iface_types _ _ _ _ Tryd.underlying25 (by decide) w
theorem comparableE (w : World) : (callFunc 99 #[.agg #[.pointer (some ⟨7, 30, none⟩)]]).run Tryd.prog w = .ok (.value (.bool true)) w := by kernel_rfl

def IsRel (w : World) (n : Int) (k : Nat) (p : Value) (wr : World) : Prop := wr = w ∧ ∃ cs, cs.length = k ∧ Chain w cs (some n) p

set_option maxHeartbeats 4000000 in
set_option maxRecDepth 100000 in
theorem is1_any (cs : List ByteArray) (n m : Int) (u : TypeId) (x : Value) (w : World) (hc : Chain w cs (some n) (.iface u x)) :
    Calls Tryd.prog 30 #[.iface u x, .iface 30 (.int .i64 m), .bool true] w fun e w' => e = .returned (.bool (n == m)) ∧ w = w' := by
  have HC := Lib.hid hc
  clear hc
  have mU := methodUnwrap
  have isE := assertIsE
  have isF := assertIsF
  have o1E := assertOneE
  have o1F := assertOneF
  have omE := assertManyE
  have eN := eql_numbers
  have eT := eql_types
  go_enter Tryd.func30, Tryd.ntmps30
  go_wp2
  go_loopg [0] cs.length (fun k p wr => IsRel w n k p wr)
  case atStart => exact ⟨rfl, cs, rfl, HC.out⟩
  case round =>
    obtain ⟨rfl, ds, hk, hch⟩ := hrel
    cases ds with
    | nil =>
      obtain rfl : _ = Value.iface 30 (.int .i64 n) := hch
      clear hk
      by_cases hnm : (n == m) = true
      · go_wp2
        go_ret
        exact ⟨by rw [hnm]; rfl, rfl⟩
      · have hf : (n == m) = false := by simpa using hnm
        clear hnm
        go_wp2
        go_ret
        exact ⟨by rw [hf]; rfl, rfl⟩
    | cons d ds =>
      obtain ⟨b, v', rfl, hlt, hc0, hc1, hrest⟩ := hch
      obtain ⟨u2, x2, rfl⟩ := hrest.held
      have HR := Lib.hid hrest
      have HK := Lib.hid hk
      clear hrest hk
      go_wp2_with (go_at_call 109; refine (unwrap_at b _ _ hc1).mono ?_; rintro e w' ⟨rfl, rfl⟩)
      go_roundg ds.length
      case measure => rw [← HK.out]; simp
      case rel => exact ⟨rfl, ds, rfl, HR.out⟩

set_option maxHeartbeats 4000000 in
set_option maxRecDepth 100000 in
theorem is_any (cs : List ByteArray) (n m : Int) (u : TypeId) (x : Value) (w : World) (hc : Chain w cs (some n) (.iface u x)) :
    Calls Tryd.prog 16 #[.iface u x, .iface 30 (.int .i64 m)] w fun e w' => e = .returned (.bool (n == m)) ∧ w = w' := by
  have HC := Lib.hid hc
  clear hc
  have x25 := @run_callFunc_extern Tryd.prog 29 _ ReflectliteType.typeOf Tryd.func29 (by kernel_rfl) (by kernel_rfl) (by kernel_rfl) (by kernel_rfl)
  have tOE := typeOfE
  have mC := methodComparable
  have cE := comparableE
  go_enter Tryd.func16, Tryd.ntmps16
  go_wp2_with (go_at_call 30; refine (is1_any cs n m u x _ HC.out).mono ?_; rintro e w' ⟨rfl, rfl⟩)
  go_ret
  exact ⟨rfl, rfl⟩
end Go.Proofs.YtbdedjokahopmaaDoor

/-
  What the program's Parse, Text and Ends of layer 7 are held against: their contracts, as hypotheses; the example.
-/
namespace Go.Proofs.YtbdedjokahopmaaDoor
open Go.RowKit

theorem bnext7 {w a b : World} (h : Below w.heap.size w a) (k : Below a.heap.size a b) : Below w.heap.size w b := h.trans (k.mono h.size)
def Yes7 (w : World) (e : Ending) (w' : World) : Prop := e = .returned (.bool true) ∧ Below w.heap.size w w'
/-- An address and no error; or 0 and an error of this number. -/
def AddrPost (r : Nat × Nat) (w : World) (e : Ending) (w' : World) : Prop := match r.1 with
  | 0 => e = .returned (.tuple #[.int .u32 (r.2 : Nat), .nilIface]) ∧ Below w.heap.size w w'
  | n + 1 => ∃ cs u x, e = .returned (.tuple #[.int .u32 0, .iface u x]) ∧ Chain w' cs (some ((n + 1 : Nat) : Int)) (.iface u x) ∧ Below w.heap.size w w'
/-- The program's Parse, Text and Ends do as the document says, in every world behind w0. -/
structure IpC (w0 : World) : Prop where
  parse : ∀ (s : ByteArray) (w : World), Below w0.heap.size w0 w → s.size ≤ 200 → Calls Tryd.prog 9 #[.string s] w (AddrPost (parse7 s.data.toList) w)
  text : ∀ (a : Nat) (w : World), Below w0.heap.size w0 w → a < 4294967296 → Calls Tryd.prog 14 #[.int .u32 (a : Int)] w (TextPost7 (btx (text7 a)) w)
  ends : ∀ (s : ByteArray) (w : World), Below w0.heap.size w0 w → s.size ≤ 200 → Calls Tryd.prog 12 #[.string s] w (BoolPost (ends7 s.data.toList) w)

theorem parse_ok {w0 : World} (C : IpC w0) {s : ByteArray} {a : Nat} (h : parse7 s.data.toList = (0, a)) (hs : s.size ≤ 200) (w : World) (hw : Below w0.heap.size w0 w) :
    Calls Tryd.prog 9 #[.string s] w fun e w' => e = .returned (.tuple #[.int .u32 (a : Nat), .nilIface]) ∧ Below w.heap.size w w' := by
  have := C.parse s w hw hs
  rw [h] at this
  exact this
theorem parse_no {w0 : World} (C : IpC w0) {s : ByteArray} {n : Nat} (h : parse7 s.data.toList = (n + 1, 0)) (hs : s.size ≤ 200) (w : World) (hw : Below w0.heap.size w0 w) :
    Calls Tryd.prog 9 #[.string s] w fun e w' => ∃ cs u x, e = .returned (.tuple #[.int .u32 0, .iface u x]) ∧ Chain w' cs (some ((n + 1 : Nat) : Int)) (.iface u x) ∧ Below w.heap.size w w' := by
  have := C.parse s w hw hs
  rw [h] at this
  exact this
theorem text_is {w0 : World} (C : IpC w0) {a : Nat} {t : ByteArray} (h : btx (text7 a) = t) (ha : a < 4294967296) (w : World) (hw : Below w0.heap.size w0 w) :
    Calls Tryd.prog 14 #[.int .u32 (a : Int)] w fun e w' => e = .returned (.string t) ∧ Below w.heap.size w w' := by
  have := C.text a w hw ha
  rw [h] at this
  exact this
theorem ends_is {w0 : World} (C : IpC w0) {s : ByteArray} {b : Bool} (h : ends7 s.data.toList = b) (hs : s.size ≤ 200) (w : World) (hw : Below w0.heap.size w0 w) :
    Calls Tryd.prog 12 #[.string s] w fun e w' => e = .returned (.bool b) ∧ Below w.heap.size w w' := by
  have := C.ends s w hw hs
  rw [h] at this
  exact this
theorem aw_a : parse7 (⟨#[48, 120, 55, 102, 46, 49]⟩ : ByteArray).data.toList = (0, 2130706433) := by decide +kernel
theorem aw_b : parse7 (⟨#[49, 46, 50, 46, 51, 46, 52, 46, 53]⟩ : ByteArray).data.toList = (1 + 1, 0) := by decide +kernel
theorem aw_c : parse7 (⟨#[50, 53, 54, 46, 49]⟩ : ByteArray).data.toList = (2 + 1, 0) := by decide +kernel
theorem aw_d : btx (text7 2130706433) = ⟨#[49, 50, 55, 46, 48, 46, 48, 46, 49]⟩ := by decide +kernel
theorem aw_e : ends7 (⟨#[97, 46, 48, 57, 46]⟩ : ByteArray).data.toList = true := by decide +kernel
theorem aw_f : ends7 (⟨#[97, 46, 98]⟩ : ByteArray).data.toList = false := by decide +kernel
theorem ip_a {w0 : World} (C : IpC w0) (w : World) (hw : Below w0.heap.size w0 w) : Calls Tryd.prog 9 #[.string ⟨#[48, 120, 55, 102, 46, 49]⟩] w fun e w' => e = .returned (.tuple #[.int .u32 2130706433, .nilIface]) ∧ Below w.heap.size w w' := parse_ok C aw_a (by decide) w hw
theorem ip_b {w0 : World} (C : IpC w0) (w : World) (hw : Below w0.heap.size w0 w) : Calls Tryd.prog 9 #[.string ⟨#[49, 46, 50, 46, 51, 46, 52, 46, 53]⟩] w fun e w' => ∃ cs u x, e = .returned (.tuple #[.int .u32 0, .iface u x]) ∧ Chain w' cs (some 2) (.iface u x) ∧ Below w.heap.size w w' := parse_no C aw_b (by decide) w hw
theorem ip_c {w0 : World} (C : IpC w0) (w : World) (hw : Below w0.heap.size w0 w) : Calls Tryd.prog 9 #[.string ⟨#[50, 53, 54, 46, 49]⟩] w fun e w' => ∃ cs u x, e = .returned (.tuple #[.int .u32 0, .iface u x]) ∧ Chain w' cs (some 3) (.iface u x) ∧ Below w.heap.size w w' := parse_no C aw_c (by decide) w hw
theorem ip_d {w0 : World} (C : IpC w0) (w : World) (hw : Below w0.heap.size w0 w) : Calls Tryd.prog 14 #[.int .u32 2130706433] w fun e w' => e = .returned (.string ⟨#[49, 50, 55, 46, 48, 46, 48, 46, 49]⟩) ∧ Below w.heap.size w w' := text_is C aw_d (by decide) w hw
theorem ip_e {w0 : World} (C : IpC w0) (w : World) (hw : Below w0.heap.size w0 w) : Calls Tryd.prog 12 #[.string ⟨#[97, 46, 48, 57, 46]⟩] w fun e w' => e = .returned (.bool true) ∧ Below w.heap.size w w' := ends_is C aw_e (by decide) w hw
theorem ip_f {w0 : World} (C : IpC w0) (w : World) (hw : Below w0.heap.size w0 w) : Calls Tryd.prog 12 #[.string ⟨#[97, 46, 98]⟩] w fun e w' => e = .returned (.bool false) ∧ Below w.heap.size w w' := ends_is C aw_f (by decide) w hw

set_option maxHeartbeats 2000000 in
set_option maxRecDepth 100000 in
theorem awake7 {w : World} (C : IpC w) : Calls Tryd.prog 8 #[] w (Yes7 w) := by
  have HC := Lib.hid C
  have HB := Lib.hid (Below.refl w.heap.size w)
  clear C
  go_enter Tryd.func8, Tryd.ntmps8
  go_wp2_with (first
    | (go_at_call 9; (with_reducible refine (ip_a HC.out _ HB.out).mono ?_); rintro e w1 ⟨rfl, hb⟩; have HB := Lib.hid (bnext7 HB.out hb); clear hb)
    | (go_at_call 9; (with_reducible refine (ip_b HC.out _ HB.out).mono ?_); rintro e w2 ⟨cs2, u2, x2, rfl, hch, hb⟩; have HC2 := Lib.hid hch; have HB := Lib.hid (bnext7 HB.out hb); clear hb hch)
    | (go_at_call 9; (with_reducible refine (ip_c HC.out _ HB.out).mono ?_); rintro e w3 ⟨cs3, u3, x3, rfl, hch, hb⟩; have HC3 := Lib.hid hch; have HC2 := Lib.hid (HC2.out.below hb); have HB := Lib.hid (bnext7 HB.out hb); clear hb hch)
    | (go_at_call 14; (with_reducible refine (ip_d HC.out _ HB.out).mono ?_); rintro e w4 ⟨rfl, hb⟩; have HC3 := Lib.hid (HC3.out.below hb); have HC2 := Lib.hid (HC2.out.below hb); have HB := Lib.hid (bnext7 HB.out hb); clear hb)
    | (go_at_call 12; (with_reducible refine (ip_e HC.out _ HB.out).mono ?_); rintro e w5 ⟨rfl, hb⟩; have HC3 := Lib.hid (HC3.out.below hb); have HC2 := Lib.hid (HC2.out.below hb); have HB := Lib.hid (bnext7 HB.out hb); clear hb)
    | (go_at_call 12; (with_reducible refine (ip_f HC.out _ HB.out).mono ?_); rintro e w6 ⟨rfl, hb⟩; have HC3 := Lib.hid (HC3.out.below hb); have HC2 := Lib.hid (HC2.out.below hb); have HB := Lib.hid (bnext7 HB.out hb); clear hb)
    | (go_at_call 16; (with_reducible refine (is_any _ 2 2 u2 x2 _ HC2.out).mono ?_); rintro e w' ⟨rfl, rfl⟩)
    | (go_at_call 16; (with_reducible refine (is_any _ 3 3 u3 x3 _ HC3.out).mono ?_); rintro e w' ⟨rfl, rfl⟩))
  go_ret
  exact ⟨rfl, HB.out⟩
end Go.Proofs.YtbdedjokahopmaaDoor

/-
  The program's figureValue, isDecimal of layer 7.
-/
namespace Go.Proofs.YtbdedjokahopmaaDoor
open Go.RowKit

/-- A figure of a base: its value, and whether it is one. -/
def figP (base c : Int) : Int × Bool := if 0 ≤ val c ∧ val c < base then (val c, true) else (0, false)
theorem figP_yes {base c v : Int} (h : val c = v) (h0 : 0 ≤ v) (h1 : v < base) : figP base c = (v, true) := by
  unfold figP
  rw [h, if_pos ⟨h0, h1⟩]
theorem figP_no {base c : Int} (h : ¬ (0 ≤ val c ∧ val c < base)) : figP base c = (0, false) := by
  unfold figP
  rw [if_neg h]
theorem ret_fig {base c v : Int} {b : Bool} (h : figP base c = (v, b)) : Ending.returned (.tuple #[.int .u64 v, .bool b]) = .returned (.tuple #[.int .u64 (figP base c).1, .bool (figP base c).2]) := by rw [h]
set_option maxHeartbeats 2000000 in
theorem zfig_c (base c : Int) (h0 : 0 ≤ c) (h2 : c ≤ 255) (hb : base = 8 ∨ base = 10 ∨ base = 16) (w : World) :
    Calls Tryd.prog 36 #[.int .u64 base, .int .u8 c] w fun e w' => e = .returned (.tuple #[.int .u64 (figP base c).1, .bool (figP base c).2]) ∧ w = w' := by
  rcases hb with rfl | rfl | rfl
  all_goals
    go_enter Tryd.func36, Tryd.ntmps36
    go_wp2
    all_goals
      try simp only [beq_iff_eq, beq_eq_false_iff_ne, ne_eq] at *
      go_ret2
      refine ⟨ret_fig ?_, rfl⟩
      first
        | (refine figP_yes ?_ (by omega) (by omega); unfold val; repeat' split
           all_goals omega)
        | (refine figP_no ?_; unfold val; repeat' split
           all_goals omega)
theorem zfig_any (base : Int) (b : UInt8) (hb : base = 8 ∨ base = 10 ∨ base = 16) (w : World) :
    Calls Tryd.prog 36 #[.int .u64 base, .int .u8 (b.toNat : Int)] w fun e w' => e = .returned (.tuple #[.int .u64 (figP base b.toNat).1, .bool (figP base b.toNat).2]) ∧ w = w' := by
  have h1 := b.toNat_lt
  exact zfig_c base b.toNat (by omega) (by omega) hb w
theorem zfig_is {base c v : Int} {t : Bool} (h : figP base c = (v, t)) (h0 : 0 ≤ c) (h2 : c ≤ 255) (hb : base = 8 ∨ base = 10 ∨ base = 16) (w : World) :
    Calls Tryd.prog 36 #[.int .u64 base, .int .u8 c] w fun e w' => e = .returned (.tuple #[.int .u64 v, .bool t]) ∧ w = w' := by
  have := zfig_c base c h0 h2 hb w
  rw [h] at this
  exact this
theorem isFig_val (b : UInt8) : isFig b = true ↔ (0 ≤ val b.toNat ∧ val b.toNat < 10) := by
  unfold isFig val
  simp only [Bool.and_eq_true, decide_eq_true_eq]
  repeat' split
  all_goals omega
theorem fig_ten {b : UInt8} {t : Bool} (h : isFig b = t) : figP 10 b.toNat = (if t then val b.toNat else 0, t) := by
  cases t with
  | true => rw [figP_yes rfl ((isFig_val b).1 h).1 ((isFig_val b).1 h).2]; rfl
  | false => rw [figP_no (fun e => by rw [(isFig_val b).2 e] at h; cases h)]; rfl

set_option maxHeartbeats 1000000 in
theorem zdec_any (s : ByteArray) (w : World) (hs : s.size ≤ 10000) :
    Calls Tryd.prog 26 #[.string s] w fun e w' => e = .returned (.bool (s.data.toList.all isFig)) ∧ w = w' := by
  go_enter Tryd.func26, Tryd.ntmps26
  go_wp2
  go_loopw [8] (fun i wr => ∃ k : Nat, k ≤ s.size ∧ i = .int .i64 k ∧ wr = w ∧ s.data.toList.all isFig = (s.data.toList.drop k).all isFig) (fun i _ => s.size - (intOf i).toNat)
  case atStart => exact ⟨0, by omega, rfl, rfl, rfl⟩
  case round =>
    obtain ⟨k, hk, rfl, rfl, ha⟩ := hrel
    have HA := Lib.hid ha
    clear ha
    by_cases hlt : k < s.size
    · have HD := Lib.hid (drop_byte s k hlt)
      have hu := (s[k]'hlt).toNat_lt
      cases hf : isFig (s[k]'hlt) with
      | true =>
        have HF := Lib.hid (fig_ten hf)
        have HN : Hid (s.data.toList.all isFig = (s.data.toList.drop (k + 1)).all isFig) := by
          show s.data.toList.all isFig = _
          rw [HA.out, HD.out, List.all_cons, hf]; rfl
        clear hf
        go_wp2_with (go_at_call 36; refine (zfig_is HF.out (by omega) (by omega) (by omega) _).mono ?_; rintro e w' ⟨rfl, rfl⟩)
        go_roundw
        case rel => exact ⟨k + 1, by omega, by go_num, by first | rfl | trivial, HN.out⟩
        case measure => simp [intOf]; omega
      | false =>
        have HF := Lib.hid (fig_ten hf)
        have HN : Hid (s.data.toList.all isFig = false) := by
          show s.data.toList.all isFig = _
          rw [HA.out, HD.out, List.all_cons, hf]; rfl
        clear hf
        go_wp2_with (go_at_call 36; refine (zfig_is HF.out (by omega) (by omega) (by omega) _).mono ?_; rintro e w' ⟨rfl, rfl⟩)
        go_ret
        exact ⟨by rw [HN.out]; rfl, rfl⟩
    · have HN : Hid (s.data.toList.all isFig = true) := by
        show s.data.toList.all isFig = _
        rw [HA.out, List.drop_eq_nil_of_le (by simp; omega)]; rfl
      go_wp2
      go_ret
      exact ⟨by rw [HN.out]; rfl, rfl⟩
end Go.Proofs.YtbdedjokahopmaaDoor

/-
  The program's cut and wrap of layer 7; strings.HasPrefix at the signs of base 16.
-/
namespace Go.Proofs.YtbdedjokahopmaaDoor
open Go.RowKit

theorem zbytes {a b : ByteArray} (h : a.data.toList = b.data.toList) : a = b := by
  cases a; cases b
  simp only [ByteArray.mk.injEq]
  exact Array.toList_inj.1 h
theorem zlist (s : ByteArray) : s.toList = s.data.toList := ByteArray.toList_eq s
theorem ztake (s : ByteArray) (k : Nat) : (s.extract 0 k).data.toList = s.data.toList.take k := by
  simp only [ByteArray.data_extract, Array.toList_extract, List.extract_eq_take_drop]
  simp
set_option maxHeartbeats 400000 in
theorem zhas_a (s : ByteArray) (w : World) (hl : s.size ≤ 100000) {t : Bool} (h : decide (s.data.toList.take 2 = [48, 120]) = t) :
    Calls Tryd.prog 47 #[.string s, .string ⟨#[48, 120]⟩] w fun e w' => e = .returned (.bool t) ∧ w = w' := by
  have HC : Hid (Calls Tryd.prog 58 #[.string s, .string ⟨#[48, 120]⟩] w fun e w' => e = .returned (.bool t) ∧ w = w') := by
    show Calls _ _ _ _ _
    cases t with
    | true =>
      have h := of_decide_eq_true h
      have h2 : 2 ≤ s.size := by
        have e := congrArg List.length h
        simp at e
        omega
      have he : s.extract 0 2 = ⟨#[48, 120]⟩ := zbytes (by rw [ztake, h])
      clear h
      go_enter Tryd.func58, Tryd.ntmps58
      go_wp2
      go_ret
      exact ⟨rfl, rfl⟩
    | false =>
      have h := of_decide_eq_false h
      by_cases h2 : 2 ≤ s.size
      · have hne : ((s.extract 0 2).toList == [48, 120]) = false := by
          rw [beq_eq_false_iff_ne]
          intro e
          refine h ?_
          rw [← ztake, ← zlist, e]
        clear h
        go_enter Tryd.func58, Tryd.ntmps58
        go_wp2
        go_ret
        exact ⟨rfl, rfl⟩
      · clear h
        go_enter Tryd.func58, Tryd.ntmps58
        go_wp2
        go_ret
        exact ⟨rfl, rfl⟩
  clear h
  go_enter Tryd.func47, Tryd.ntmps47
  go_wp2_with (go_at_call 58; refine HC.out.mono ?_; rintro e w' ⟨rfl, rfl⟩)
  go_ret
  exact ⟨rfl, rfl⟩
set_option maxHeartbeats 400000 in
theorem zhas_b (s : ByteArray) (w : World) (hl : s.size ≤ 100000) {t : Bool} (h : decide (s.data.toList.take 2 = [48, 88]) = t) :
    Calls Tryd.prog 47 #[.string s, .string ⟨#[48, 88]⟩] w fun e w' => e = .returned (.bool t) ∧ w = w' := by
  have HC : Hid (Calls Tryd.prog 58 #[.string s, .string ⟨#[48, 88]⟩] w fun e w' => e = .returned (.bool t) ∧ w = w') := by
    show Calls _ _ _ _ _
    cases t with
    | true =>
      have h := of_decide_eq_true h
      have h2 : 2 ≤ s.size := by
        have e := congrArg List.length h
        simp at e
        omega
      have he : s.extract 0 2 = ⟨#[48, 88]⟩ := zbytes (by rw [ztake, h])
      clear h
      go_enter Tryd.func58, Tryd.ntmps58
      go_wp2
      go_ret
      exact ⟨rfl, rfl⟩
    | false =>
      have h := of_decide_eq_false h
      by_cases h2 : 2 ≤ s.size
      · have hne : ((s.extract 0 2).toList == [48, 88]) = false := by
          rw [beq_eq_false_iff_ne]
          intro e
          refine h ?_
          rw [← ztake, ← zlist, e]
        clear h
        go_enter Tryd.func58, Tryd.ntmps58
        go_wp2
        go_ret
        exact ⟨rfl, rfl⟩
      · clear h
        go_enter Tryd.func58, Tryd.ntmps58
        go_wp2
        go_ret
        exact ⟨rfl, rfl⟩
  clear h
  go_enter Tryd.func47, Tryd.ntmps47
  go_wp2_with (go_at_call 58; refine HC.out.mono ?_; rintro e w' ⟨rfl, rfl⟩)
  go_ret
  exact ⟨rfl, rfl⟩
theorem zdrew (w : World) : Below w.heap.size w w.drew := (Below.refl w.heap.size w).drew
/-- What cut gives back. -/
def CutPost (s : ByteArray) (w : World) (e : Ending) (w' : World) : Prop :=
  ∃ (base : Int) (n : Nat) (t : ByteArray), e = .returned (.tuple #[.int .u64 base, .string t]) ∧ base = n ∧ base7 s.data.toList = (n, t.data.toList) ∧ (base = 8 ∨ base = 10 ∨ base = 16) ∧ t.size ≤ s.size ∧ Below w.heap.size w w'
theorem ztwo {s : ByteArray} {x : UInt8} (h : 1 < s.size) (h0 : (s[0]'(by omega)).toNat = 48) (h1 : s[1]'h = x) : s.data.toList.take 2 = [48, x] := by
  have e0 : s[0]'(by omega) = 48 := UInt8.toNat_inj.1 h0
  have a := drop_byte s 0 (by omega)
  have b := drop_byte s 1 h
  rw [List.drop_zero] at a
  rw [a, show (0 : Nat) + 1 = 1 from rfl, b, e0, h1]
  rfl
theorem ztwo_of {s : ByteArray} {x : UInt8} (h : s.data.toList.take 2 = [48, x]) : ∃ h : 1 < s.size, (s[0]'(by omega)).toNat = 48 ∧ s[1]'h = x := by
  have hl : 1 < s.size := by
    have e := congrArg List.length h
    simp at e
    omega
  refine ⟨hl, ?_⟩
  have a := drop_byte s 0 (by omega)
  have b := drop_byte s 1 hl
  rw [List.drop_zero] at a
  rw [a, show (0 : Nat) + 1 = 1 from rfl, b] at h
  simp at h
  exact ⟨by rw [h.1]; rfl, h.2⟩

set_option maxHeartbeats 2000000 in
set_option maxRecDepth 100000 in
theorem zcut_any (s : ByteArray) (w : World) (hs : s.size ≤ 10000) (hpos : 0 < s.size) : Calls Tryd.prog 34 #[.string s] w (CutPost s w) := by
  cases ha : decide (s.data.toList.take 2 = [48, 120]) with
  | true =>
    obtain ⟨h1, h2, h3⟩ := ztwo_of (of_decide_eq_true ha)
    have HB := Lib.hid (base_a h1 h2 (.inl (by rw [h3]; rfl)))
    have HA := Lib.hid ha
    clear h2 h3 ha
    go_enter Tryd.func34, Tryd.ntmps34
    go_wp2_with (go_at_call 47; refine (zhas_a _ _ (by omega) HA.out).mono ?_; rintro e w' ⟨rfl, rfl⟩)
    go_region
    all_goals
      go_wp2
      go_ret2
      refine ⟨16, 16, s.extract 2 s.size, rfl, rfl, by rw [HB.out, extract_list], by omega, by simp, ?_⟩
      exact zdrew w
  | false =>
    cases hb : decide (s.data.toList.take 2 = [48, 88]) with
    | true =>
      obtain ⟨h1, h2, h3⟩ := ztwo_of (of_decide_eq_true hb)
      have HB := Lib.hid (base_a h1 h2 (.inr (by rw [h3]; rfl)))
      have HA := Lib.hid ha
      have HX := Lib.hid hb
      clear h2 h3 ha hb
      go_enter Tryd.func34, Tryd.ntmps34
      go_wp2_with (go_at_call 47; first
        | (with_reducible refine (zhas_a _ _ (by omega) HA.out).mono ?_); rintro e w' ⟨rfl, rfl⟩
        | (with_reducible refine (zhas_b _ _ (by omega) HX.out).mono ?_); rintro e w' ⟨rfl, rfl⟩)
      go_region
      all_goals
        go_wp2
        go_ret2
        refine ⟨16, 16, s.extract 2 s.size, rfl, rfl, by rw [HB.out, extract_list], by omega, by simp, ?_⟩
        exact zdrew w
    | false =>
      have HA := Lib.hid ha
      have HX := Lib.hid hb
      have na := of_decide_eq_false ha
      have nb := of_decide_eq_false hb
      clear ha hb
      by_cases h1 : 1 < s.size
      · have hdi : decide ((1 : Int) < (s.size : Int)) = true := by simp; omega
        by_cases h2 : (s[0]'hpos).toNat = 48
        · have hc0 : (((s[0]'hpos).toNat : Int) == 48) = true := by rw [h2]; rfl
          have HB := Lib.hid (base_b h1 h2 (fun h => h.elim (fun h => na (ztwo h1 h2 (UInt8.toNat_inj.1 h))) (fun h => nb (ztwo h1 h2 (UInt8.toNat_inj.1 h)))))
          clear na nb h2
          go_enter Tryd.func34, Tryd.ntmps34
          go_wp2_with (go_at_call 47; first
            | (with_reducible refine (zhas_a _ _ (by omega) HA.out).mono ?_); rintro e w' ⟨rfl, rfl⟩
            | (with_reducible refine (zhas_b _ _ (by omega) HX.out).mono ?_); rintro e w' ⟨rfl, rfl⟩)
          go_region
          all_goals
            go_wp2
            go_ret2
            refine ⟨8, 8, s.extract 1 s.size, rfl, rfl, by rw [HB.out, extract_list], by omega, by simp, ?_⟩
            exact zdrew w
        · have hc0 : (((s[0]'hpos).toNat : Int) == 48) = false := by rw [beq_eq_false_iff_ne]; omega
          have HB := Lib.hid (base_c (s := s) (.inr ⟨hpos, h2⟩))
          clear na nb h2
          go_enter Tryd.func34, Tryd.ntmps34
          go_wp2_with (go_at_call 47; first
            | (with_reducible refine (zhas_a _ _ (by omega) HA.out).mono ?_); rintro e w' ⟨rfl, rfl⟩
            | (with_reducible refine (zhas_b _ _ (by omega) HX.out).mono ?_); rintro e w' ⟨rfl, rfl⟩)
          go_ret2
          exact ⟨10, 10, s, rfl, rfl, by rw [HB.out, List.drop_zero], by omega, Nat.le_refl _, Below.refl _ _⟩
      · have HB := Lib.hid (base_c (s := s) (.inl (by omega)))
        clear na nb
        go_enter Tryd.func34, Tryd.ntmps34
        go_wp2_with (go_at_call 47; first
          | (with_reducible refine (zhas_a _ _ (by omega) HA.out).mono ?_); rintro e w' ⟨rfl, rfl⟩
          | (with_reducible refine (zhas_b _ _ (by omega) HX.out).mono ?_); rintro e w' ⟨rfl, rfl⟩)
        go_ret2
        exact ⟨10, 10, s, rfl, rfl, by rw [HB.out, List.drop_zero], by omega, Nat.le_refl _, Below.refl _ _⟩
/-- An error of the package. -/
theorem wrap7_any (n : Int) (w : World) :
    Calls Tryd.prog 20 #[.iface 30 (.int .i64 n)] w fun e w' => ∃ cs u' x', e = .returned (.iface u' x') ∧ Chain w' cs (some n) (.iface u' x') ∧ Below w.heap.size w w' := by
  go_enter Tryd.func20, Tryd.ntmps20
  go_wp2_with (go_at_call 33; refine (wrap_held _ _ _ _).mono ?_; rintro e w' ⟨rfl, rfl⟩)
  go_ret
  exact ⟨_, _, _, rfl, Chain.lay (w := w) (cs := []) (o := some n) _ rfl, (Below.refl _ _).alloc (Nat.le_refl _) _⟩
end Go.Proofs.YtbdedjokahopmaaDoor

/-
  The program's number of layer 7: the closure that stops at a bound, and the loop over it.
-/
namespace Go.Proofs.YtbdedjokahopmaaDoor
open Go.RowKit

def cap9 (n : Nat) : Nat := min n 4294967296
theorem cap9_le (n : Nat) : cap9 n ≤ 4294967296 := by unfold cap9; omega
theorem cap9_step (v base d : Nat) (hb : base = 8 ∨ base = 10 ∨ base = 16) : cap9 (cap9 v * base + d) = cap9 (v * base + d) := by
  unfold cap9
  rcases hb with rfl | rfl | rfl <;> omega
theorem zspot {w : World} {b : Nat} {v : Value} {t : TypeId} (h : w.heap[b]? = some (.cells #[v] t (0, 0))) : w.cell? ⟨b, 0, none⟩ = some v ∧ w.frozen? ⟨b, 0, none⟩ = false := by
  constructor
  · simp [World.cell?, h]
  · simp [World.frozen?, h]
/-- Two boxes, made since w0: the base, and the number as it grows. -/
structure NumI (w0 : World) (g : Nat) (base v : Int) (w : World) : Prop where
  old : Below w0.heap.size w0 w
  ge : w0.heap.size ≤ g
  bx : w.heap[g]? = some (.cells #[.int .u64 base] 42 (0, 0))
  tx : w.heap[g + 1]? = some (.cells #[.int .u64 v] 42 (0, 0))
theorem NumI.drew {w0 : World} {g : Nat} {base v : Int} {w : World} (h : NumI w0 g base v w) : NumI w0 g base v w.drew := ⟨h.old.drew, h.ge, h.bx, h.tx⟩
theorem NumI.put {w0 : World} {g : Nat} {base v : Int} {w : World} (h : NumI w0 g base v w) (x : Int) : NumI w0 g base x (w.setCell ⟨g + 1, 0, none⟩ (.int .u64 x)) := by
  have hge := h.ge
  refine ⟨h.old.setCell (by show _ ≤ g + 1; omega) _, h.ge, ?_, ?_⟩
  · rw [heap_setCell_other w ⟨g + 1, 0, none⟩ g _ (by simp)]
    exact h.bx
  · have := heap_setCell_same w (g + 1) 0 #[.int .u64 v] 42 (.int .u64 x) h.tx
    simpa using this
theorem NumI.put2 {w0 : World} {g : Nat} {base v : Int} {w : World} (h : NumI w0 g base v w) {x y : Int} (hx : x = y) : NumI w0 g base y (w.setCell ⟨g + 1, 0, none⟩ (.int .u64 x)) := by
  subst hx
  exact h.put x

set_option maxHeartbeats 1000000 in
theorem zgrow_any (w0 : World) (g : Nat) (base v d : Int) (w : World) (h : NumI w0 g base v w) (h0 : 0 ≤ v) (h1 : v ≤ 4294967296) (h2 : 0 ≤ d) (h3 : d ≤ 15) (hb : base = 8 ∨ base = 10 ∨ base = 16) :
    Calls Tryd.prog 35 #[.int .u64 d, .pointer (some ⟨g + 1, 0, none⟩), .pointer (some ⟨g, 0, none⟩)] w fun e w' => e = .returned (.tuple #[]) ∧ NumI w0 g base (min (v * base + d) 4294967296) w' := by
  have HN := Lib.hid h
  obtain ⟨c1, f1⟩ := zspot h.bx
  obtain ⟨c2, f2⟩ := zspot h.tx
  clear h
  rcases hb with rfl | rfl | rfl
  all_goals
    go_enter Tryd.func35, Tryd.ntmps35
    go_wp2
    all_goals
      go_end0
      exact ⟨rfl, HN.out.put2 (by omega)⟩
def NumPost (o : Option Nat) (w : World) (e : Ending) (w' : World) : Prop := e = .returned (.tuple #[.int .u64 (((o.map cap9).getD 0 : Nat) : Int), .bool o.isSome]) ∧ Below w.heap.size w w'

set_option maxHeartbeats 2000000 in
set_option maxRecDepth 100000 in
theorem znum_any (s : ByteArray) (w : World) (hs : s.size ≤ 10000) : Calls Tryd.prog 21 #[.string s] w (NumPost (num7 s.data.toList) w) := by
  have HSl : Hid (s.data.toList.length = s.size) := by show s.data.toList.length = s.size; simp
  by_cases h0 : s.size = 0
  · have hnil : s.data.toList = [] := List.eq_nil_of_length_eq_zero (by rw [HSl.out]; exact h0)
    have hN : num7 s.data.toList = none := by rw [hnil]; rfl
    have hE : s.toList.isEmpty = true := by rw [zlist, hnil]; rfl
    rw [hN]
    clear hN hnil
    go_enter Tryd.func21, Tryd.ntmps21
    go_wp2
    go_ret2
    exact ⟨rfl, Below.refl _ _⟩
  · have hpos : 0 < s.size := by omega
    have hne : s.data.toList ≠ [] := fun e => h0 (by rw [← HSl.out, e]; rfl)
    have hE : s.toList.isEmpty = false := by rw [zlist, List.isEmpty_eq_false_iff]; exact hne
    have HNe := Lib.hid hne
    clear hne
    obtain ⟨R, hR⟩ : ∃ R, num7 s.data.toList = R := ⟨_, rfl⟩
    rw [hR]
    have HR := Lib.hid hR
    clear hR
    go_enter Tryd.func21, Tryd.ntmps21
    go_wp2_with (go_at_call 34; refine (zcut_any _ _ hs hpos).mono ?_
                 rintro e w1 ⟨base, n, t, rfl, hbn, hb7, hbase, hts, hbel⟩
                 have HB := Lib.hid hbel
                 have H7 : Hid (R = digs n 0 t.data.toList) := (HR.out.symm.trans (num7_of HNe.out hb7))
                 have HBn := Lib.hid hbn
                 have HBa := Lib.hid hbase
                 clear hbel hb7 hbn hbase)
    have HI : Hid (NumI w w1.heap.size base (cap9 0 : Nat) ((w1.alloc (.cells #[.int .u64 base] 42)).alloc (.cells #[.int .u64 0] 42))) := by
      refine ⟨?_, HB.out.size, ?_, ?_⟩
      · exact (HB.out.alloc HB.out.size _).alloc (by simp; have := HB.out.size; omega) _
      · exact heap_alloc2_old w1 _ _
      · exact heap_alloc2_new w1 _ _
    have hts2 : t.size ≤ 10000 := by omega
    clear hts
    generalize ((w1.alloc (.cells #[.int .u64 base] 42)).alloc (.cells #[.int .u64 0] 42)) = W at HI ⊢
    generalize w1.heap.size = g at HI ⊢
    clear HB hE hpos h0
    have HTl : Hid (t.data.toList.length = t.size) := by show t.data.toList.length = t.size; simp
    go_loopw [21] (fun i wr => ∃ k v : Nat, k ≤ t.size ∧ i = .int .i64 k ∧ NumI w g base (cap9 v : Nat) wr ∧ digs n 0 (t.data.toList.take k) = some v) (fun i _ => t.size - (intOf i).toNat)
    case atStart => exact ⟨0, 0, Nat.zero_le _, rfl, HI.out, rfl⟩
    case round =>
      obtain ⟨k, v, hk, rfl, hI, hd⟩ := hrel
      have HD := Lib.hid hd
      obtain ⟨c1, f1⟩ := zspot hI.bx
      obtain ⟨c2, f2⟩ := zspot hI.tx
      have HI2 := Lib.hid hI
      clear hd hI
      by_cases hlt : k < t.size
      · have hlen : k < t.data.toList.length := by rw [HTl.out]; exact hlt
        have HT := Lib.hid (List.take_succ_eq_append_getElem hlen)
        have hge : t.data.toList[k] = t[k]'hlt := by simp; rfl
        rw [hge] at HT
        have hu := (t[k]'hlt).toNat_lt
        have hv := val_le (t[k]'hlt)
        clear hlen hge
        by_cases hg : 0 ≤ val (t[k]'hlt).toNat ∧ val (t[k]'hlt).toNat < n
        · have HG := Lib.hid (digs_good HD.out hg.1 hg.2)
          obtain ⟨d, hd⟩ : ∃ d : Nat, val (t[k]'hlt).toNat = d := ⟨(val (t[k]'hlt).toNat).toNat, by omega⟩
          have HF : Hid (figP base (t[k]'hlt).toNat = ((d : Int), true)) := figP_yes hd (by omega) (by rw [HBn.out]; omega)
          rw [hd] at HG hv
          rw [Int.toNat_natCast] at HG
          have hd2 : d ≤ 15 := by omega
          have HC : Hid (min ((cap9 v : Nat) * base + (d : Int)) 4294967296 = ((cap9 (v * n + d) : Nat) : Int)) := by
            have := cap9_step v n d (by have := HBa.out; have := HBn.out; omega)
            show min ((cap9 v : Nat) * base + (d : Int)) 4294967296 = _
            rw [← this, HBn.out]
            show _ = ((min (cap9 v * n + d) 4294967296 : Nat) : Int)
            omega
          clear hd hg hv
          have hcl := cap9_le v
          obtain ⟨q, hq⟩ : ∃ q, cap9 v = q := ⟨_, rfl⟩
          rw [hq] at hcl HC HI2 c2
          clear hq
          go_wp2
          go_region_with (go_at_call 36; refine (zfig_is HF.out (by omega) (by omega) HBa.out _).mono ?_; rintro e w' ⟨rfl, rfl⟩)
          all_goals
            go_wp2_with (go_at_call 35; refine (zgrow_any w g base (q : Int) (d : Int) _ HI2.out.drew (by omega) (by omega) (by omega) (by omega) HBa.out).mono ?_
                         rintro e w2 ⟨rfl, hI3⟩
                         rw [HC.out] at hI3
                         have HI3 := Lib.hid hI3
                         clear hI3)
            go_roundw
            case rel => exact ⟨k + 1, v * n + d, by omega, by go_num, HI3.out, by rw [HT.out]; exact HG.out⟩
            case measure => simp [intOf]; omega
        · have HG := Lib.hid (digs_bad HD.out hg (t.data.toList.drop (k + 1)))
          have HF : Hid (figP base (t[k]'hlt).toNat = (0, false)) := figP_no (by rw [HBn.out]; exact hg)
          have HN : Hid (R = none) := by
            show R = none
            rw [H7.out, ← HG.out, ← HT.out, List.take_append_drop]
          clear hg hv
          go_wp2
          go_region_with (go_at_call 36; refine (zfig_is HF.out (by omega) (by omega) HBa.out _).mono ?_; rintro e w' ⟨rfl, rfl⟩)
          all_goals
            go_wp2
            go_ret2
            rw [HN.out]
            exact ⟨rfl, HI2.out.old.drew⟩
      · have HN : Hid (R = some v) := by
          show R = some v
          rw [H7.out, ← HD.out, List.take_of_length_le (by rw [HTl.out]; omega)]
        go_wp2
        go_ret2
        rw [HN.out]
        exact ⟨rfl, HI2.out.old⟩
theorem znum_is {s : ByteArray} {o : Option Nat} (h : num7 s.data.toList = o) (w : World) (hs : s.size ≤ 10000) : Calls Tryd.prog 21 #[.string s] w (NumPost o w) := h ▸ znum_any s w hs
end Go.Proofs.YtbdedjokahopmaaDoor

/-
  The program's trim and Ends of layer 7.
-/
namespace Go.Proofs.YtbdedjokahopmaaDoor
open Go.RowKit

/-- A dot at the end is left out. -/
def trimL (l : List UInt8) : List UInt8 := if l.getLast? = some 46 then l.dropLast else l
theorem cut7_two (a b : List UInt8) : cut7 46 (a ++ 46 :: b) = cut7 46 a ++ cut7 46 b := by
  induction a with
  | nil => simp [cut7]
  | cons x a ih =>
    by_cases h : x = 46
    · subst h
      rw [List.cons_append, cut7, if_pos rfl, ih, cut7, if_pos rfl]; rfl
    · cases h1 : cut7 46 a with
      | nil => exact absurd h1 (cut7_ne 46 a)
      | cons p ps =>
        rw [h1] at ih
        rw [List.cons_append, cut7_cons h (ih.trans (List.cons_append ..)), cut7_cons h h1]; rfl
theorem cut7_last_ne {l : List UInt8} (h0 : l ≠ []) (h : l.getLast? ≠ some 46) : (cut7 46 l).getLast? ≠ some [] := by
  induction l with
  | nil => exact absurd rfl h0
  | cons b l ih =>
    by_cases hl : l = []
    · subst hl
      have hb : b ≠ 46 := fun e => h (by rw [e]; rfl)
      simp [cut7, hb]
    · have h' : l.getLast? ≠ some 46 := by
        rw [List.getLast?_cons] at h
        intro e
        rw [e] at h
        exact h rfl
      have := ih hl h'
      by_cases hb : b = 46
      · subst hb
        rw [cut7, if_pos rfl]
        cases h1 : cut7 46 l with
        | nil => exact absurd h1 (cut7_ne 46 l)
        | cons p ps =>
          rw [h1] at this
          rw [List.getLast?_cons_cons]
          exact this
      · cases h1 : cut7 46 l with
        | nil => exact absurd h1 (cut7_ne 46 l)
        | cons p ps =>
          rw [cut7_cons hb h1]
          rw [h1] at this
          cases ps with
          | nil => simp
          | cons q qs =>
            rw [List.getLast?_cons_cons] at this ⊢
            exact this
theorem parts7_trim (s : List UInt8) : parts7 s = cut7 46 (trimL s) := by
  unfold parts7 trim7 trimL
  by_cases h : s.getLast? = some 46
  · rw [if_pos h]
    obtain ⟨ys, rfl⟩ := List.getLast?_eq_some_iff.1 h
    have e : cut7 46 (ys ++ [46]) = cut7 46 ys ++ [[]] := cut7_two ys []
    have hp : 1 ≤ (cut7 46 ys).length := by
      cases h1 : cut7 46 ys with
      | nil => exact absurd h1 (cut7_ne 46 ys)
      | cons _ _ => simp
    rw [e, if_pos ⟨by simp; omega, by simp⟩]
    simp
  · rw [if_neg h]
    by_cases h0 : s = []
    · subst h0; rfl
    · rw [if_neg (fun e => cut7_last_ne h0 h e.2)]
/-- What stands behind the last dot. -/
theorem cut7_lastP {l : List UInt8} (k : Nat) (h : ∀ b ∈ l.drop k, b ≠ 46) (hk : k = 0 ∨ ∃ j, k = j + 1 ∧ l.drop j = 46 :: l.drop k) : (cut7 46 l).getLast (cut7_ne 46 l) = l.drop k := by
  rcases hk with rfl | ⟨j, rfl, hj⟩
  · rw [List.drop_zero] at h ⊢
    have e := cut7_end h
    simp [e]
  · have e : l = l.take j ++ 46 :: l.drop (j + 1) := by rw [← hj, List.take_append_drop]
    have e2 : cut7 46 l = cut7 46 (l.take j) ++ [l.drop (j + 1)] := by
      conv => lhs; rw [e]
      rw [cut7_two, cut7_end h]
    simp [e2]
theorem ends7_is {s t : List UInt8} {k : Nat} (ht : trimL s = t) (h : ∀ b ∈ t.drop k, b ≠ 46) (hk : k = 0 ∨ ∃ j, k = j + 1 ∧ t.drop j = 46 :: t.drop k) : ends7 s = endsP (t.drop k) := by
  unfold ends7
  rw [← cut7_lastP k h hk]
  congr 1
  simp only [parts7_trim, ht]

theorem ztrim_len (s : ByteArray) (x : ByteArray) (h : x.data.toList = trimL s.data.toList) : x.size ≤ s.size := by
  have e : x.data.toList.length = x.size := by simp
  have e2 : s.data.toList.length = s.size := by simp
  rw [← e, ← e2, h]
  unfold trimL
  split
  · simp
  · exact Nat.le_refl _
theorem last_byte {s : ByteArray} (h : 0 < s.size) : s.data.toList.getLast? = some (s[s.size - 1]'(by omega)) := by
  rw [List.getLast?_eq_getElem?]
  have e2 : s.data.toList.length = s.size := by simp
  rw [e2, Array.getElem?_toList]
  exact Array.getElem?_eq_getElem _

set_option maxHeartbeats 1000000 in
theorem ztrim_any (s : ByteArray) (w : World) (hs : s.size ≤ 10000) :
    Calls Tryd.prog 19 #[.string s] w fun e w' => ∃ t : ByteArray, e = .returned (.string t) ∧ t.data.toList = trimL s.data.toList ∧ Below w.heap.size w w' := by
  by_cases hd : s.data.toList.getLast? = some 46
  · have hpos : 0 < s.size := by
      have e2 : s.data.toList.length = s.size := by simp
      cases hl : s.data.toList with
      | nil => rw [hl] at hd; cases hd
      | cons _ _ => rw [hl] at e2; simp at e2; omega
    have HT : Hid ((s.extract 0 (s.size - 1)).data.toList = trimL s.data.toList) := by
      show _ = trimL _
      unfold trimL
      rw [if_pos hd, ztake, List.dropLast_eq_take]
      simp
    have he : s.extract (s.size - 1) s.size = ⟨#[46]⟩ := zbytes (by
      rw [last_byte hpos] at hd
      rw [extract_list, drop_byte s (s.size - 1) (by omega), Option.some.inj hd, List.drop_eq_nil_of_le (by simp; omega)])
    have HS : Hid (∀ w, Calls Tryd.prog 57 #[.string s, .string ⟨#[46]⟩] w fun e w' => e = .returned (.bool true) ∧ w = w') := by
      intro w
      clear hd
      go_enter Tryd.func57, Tryd.ntmps57
      go_wp2
      go_ret
      exact ⟨rfl, rfl⟩
    have HR : Hid (∀ w, Calls Tryd.prog 46 #[.string s, .string ⟨#[46]⟩] w fun e w' => e = .returned (.string (s.extract 0 (s.size - 1))) ∧ w = w') := by
      intro w
      clear hd he HT
      go_enter Tryd.func46, Tryd.ntmps46
      go_wp2_with (go_at_call 57; refine (HS.out _).mono ?_; rintro e w' ⟨rfl, rfl⟩)
      go_ret
      exact ⟨rfl, rfl⟩
    have HQ : Hid (∀ w, Calls Tryd.prog 32 #[.string s, .string ⟨#[46]⟩] w fun e w' => e = .returned (.string (s.extract 0 (s.size - 1))) ∧ w = w') := by
      intro w
      clear hd he HT
      go_enter Tryd.func32, Tryd.ntmps32
      go_wp2_with (go_at_call 46; refine (HR.out _).mono ?_; rintro e w' ⟨rfl, rfl⟩)
      go_ret
      exact ⟨rfl, rfl⟩
    clear hd he
    go_enter Tryd.func19, Tryd.ntmps19
    go_wp2_with (go_at_call 32; refine (HQ.out _).mono ?_; rintro e w' ⟨rfl, rfl⟩)
    go_ret
    exact ⟨_, rfl, HT.out, Below.refl _ _⟩
  · have HT : Hid (s.data.toList = trimL s.data.toList) := by
      show s.data.toList = trimL _
      unfold trimL
      rw [if_neg hd]
    have HS : Hid (∀ w, Calls Tryd.prog 57 #[.string s, .string ⟨#[46]⟩] w fun e w' => e = .returned (.bool false) ∧ w = w') := by
      intro w
      by_cases h1 : 1 ≤ s.size
      · have hne : ((s.extract (s.size - 1) s.size).toList == [46]) = false := by
          rw [beq_eq_false_iff_ne]
          intro e
          refine hd ?_
          rw [zlist, extract_list, drop_byte s (s.size - 1) (by omega)] at e
          rw [last_byte h1, (List.cons.inj e).1]
        clear hd
        go_enter Tryd.func57, Tryd.ntmps57
        go_wp2
        go_ret
        exact ⟨rfl, rfl⟩
      · clear hd
        go_enter Tryd.func57, Tryd.ntmps57
        go_wp2
        go_ret
        exact ⟨rfl, rfl⟩
    have HR : Hid (∀ w, Calls Tryd.prog 46 #[.string s, .string ⟨#[46]⟩] w fun e w' => e = .returned (.string s) ∧ w = w') := by
      intro w
      clear hd HT
      go_enter Tryd.func46, Tryd.ntmps46
      go_wp2_with (go_at_call 57; refine (HS.out _).mono ?_; rintro e w' ⟨rfl, rfl⟩)
      go_ret
      exact ⟨rfl, rfl⟩
    have HQ : Hid (∀ w, Calls Tryd.prog 32 #[.string s, .string ⟨#[46]⟩] w fun e w' => e = .returned (.string s) ∧ w = w') := by
      intro w
      clear hd HT
      go_enter Tryd.func32, Tryd.ntmps32
      go_wp2_with (go_at_call 46; refine (HR.out _).mono ?_; rintro e w' ⟨rfl, rfl⟩)
      go_ret
      exact ⟨rfl, rfl⟩
    clear hd
    go_enter Tryd.func19, Tryd.ntmps19
    go_wp2_with (go_at_call 32; refine (HQ.out _).mono ?_; rintro e w' ⟨rfl, rfl⟩)
    go_ret
    exact ⟨_, rfl, HT.out, Below.refl _ _⟩

/-- The place behind the last dot. -/
def LastAt (l : List UInt8) (k : Nat) : Prop := (∀ b ∈ l.drop k, b ≠ 46) ∧ (k = 0 ∨ ∃ j, k = j + 1 ∧ l.drop j = 46 :: l.drop k) ∧ k ≤ l.length
set_option maxHeartbeats 400000 in
theorem zlast_any (s : ByteArray) (w : World) (hs : s.size ≤ 1000000) :
    Calls Tryd.prog 41 #[.string s, .int .u8 46] w fun e w' => ∃ k : Nat, e = .returned (.int .i64 ((k : Int) - 1)) ∧ LastAt s.data.toList k ∧ w = w' := by
  go_enter Tryd.func41, Tryd.ntmps41
  go_wp2
  go_loopw [5] (fun a wr => ∃ k : Nat, k ≤ s.size ∧ a = .int .i64 ((k : Int) - 1) ∧ wr = w ∧ ∀ b ∈ s.data.toList.drop k, b ≠ 46) (fun a _ => (intOf a + 1).toNat)
  case atStart => exact ⟨s.size, Nat.le_refl _, rfl, rfl, by rw [List.drop_eq_nil_of_le (by simp)]; simp⟩
  case round =>
    obtain ⟨k, hk, rfl, rfl, hm⟩ := hrel
    have HM := Lib.hid hm
    clear hm
    cases k with
    | zero =>
      go_wp2
      go_ret
      exact ⟨0, rfl, ⟨HM.out, .inl rfl, Nat.zero_le _⟩, rfl⟩
    | succ k =>
      have hlt : k < s.size := by omega
      have hkk : (((k + 1 : Nat) : Int) - 1) = (k : Int) := by omega
      rw [hkk]
      clear hkk
      have hu := (s[k]'hlt).toNat_lt
      have HD := Lib.hid (drop_byte s k hlt)
      by_cases h : s[k]'hlt = 46
      · have he : (((s[k]'hlt).toNat : Int) == 46) = true := by rw [h]; rfl
        rw [h] at HD
        clear h
        go_wp2
        go_ret
        exact ⟨k + 1, by simp, ⟨HM.out, .inr ⟨k, rfl, HD.out⟩, by simp; omega⟩, rfl⟩
      · have he : (((s[k]'hlt).toNat : Int) == 46) = false := by
          rw [Bool.eq_false_iff]
          exact fun e => h (UInt8.toNat_inj.1 (by have := of_decide_eq_true e; show (s[k]'hlt).toNat = 46; omega))
        have HE : Hid (∀ b ∈ s.data.toList.drop k, b ≠ 46) := by
          show ∀ b ∈ s.data.toList.drop k, b ≠ 46
          rw [HD.out]
          intro b hb
          rcases List.mem_cons.1 hb with rfl | hb
          · exact h
          · exact HM.out b hb
        clear h
        go_wp2
        go_roundw
        case rel => exact ⟨k, by omega, by go_num, by first | rfl | trivial, HE.out⟩
        case measure => simp [intOf]
theorem zlast2_any (s : ByteArray) (w : World) (hs : s.size ≤ 1000000) :
    Calls Tryd.prog 25 #[.string s, .int .u8 46] w fun e w' => ∃ k : Nat, e = .returned (.int .i64 ((k : Int) - 1)) ∧ LastAt s.data.toList k ∧ w = w' := by
  have HC := zlast_any s w hs
  go_enter Tryd.func25, Tryd.ntmps25
  go_wp2_with (go_at_call 41; refine HC.mono ?_; rintro e w' ⟨k, rfl, hk, rfl⟩; have HK := Lib.hid hk; clear hk)
  go_ret
  exact ⟨k, rfl, HK.out, rfl⟩

set_option maxHeartbeats 1000000 in
set_option maxRecDepth 100000 in
theorem zends_any (s : ByteArray) (w : World) (hs : s.size ≤ 10000) : Calls Tryd.prog 12 #[.string s] w (BoolPost (ends7 s.data.toList) w) := by
  obtain ⟨R, hR⟩ : ∃ R, ends7 s.data.toList = R := ⟨_, rfl⟩
  rw [hR]
  have HR := Lib.hid hR
  clear hR
  go_enter Tryd.func12, Tryd.ntmps12
  go_wp2_with (first
    | (go_at_call 19; refine (ztrim_any _ _ hs).mono ?_; rintro e w1 ⟨t, rfl, ht, hb⟩; have HT := Lib.hid ht; have hts := ztrim_len s t ht; have HB := Lib.hid hb; clear ht hb)
    | (go_at_call 25; refine (zlast2_any _ _ (by omega)).mono ?_; rintro e w' ⟨k, rfl, hk, rfl⟩; have hkl : k ≤ t.size := by (have := hk.2.2; simpa using this)
       have HK := Lib.hid hk; clear hk))
  have HX := Lib.hid (extract_list t k)
  have hxs : (t.extract k t.size).size ≤ 10000 := by simp; omega
  have HE : Hid (R = endsP (t.extract k t.size).data.toList) := by
    show R = _
    rw [HX.out, ← HR.out]
    exact ends7_is HT.out.symm HK.out.1 HK.out.2.1
  generalize t.extract k t.size = x at hxs HE ⊢
  clear HX HK hkl hts HT HR
  cases hn : num7 x.data.toList with
  | some n =>
    have HN := Lib.hid hn
    have HT : Hid (R = true) := by
      show R = true
      rw [HE.out]
      unfold endsP
      rw [hn]; simp
    clear hn HE
    go_wp2_with (go_at_call 21; refine (znum_is HN.out _ hxs).mono ?_; rintro e w2 ⟨rfl, hb⟩; have HB := Lib.hid (HB.out.trans (hb.mono HB.out.size)); clear hb)
    go_ret
    exact ⟨by rw [HT.out]; rfl, HB.out⟩
  | none =>
    have HN := Lib.hid hn
    have HT : Hid (R = (decide (0 < x.data.toList.length) && x.data.toList.all isFig)) := by
      show R = _
      rw [HE.out]
      unfold endsP
      rw [hn]; simp
    clear hn HE
    by_cases h0 : x.size = 0
    · have hnil : x.data.toList = [] := List.eq_nil_of_length_eq_zero (by simpa using h0)
      have hE : x.toList.isEmpty = true := by rw [zlist, hnil]; rfl
      have HT : Hid (R = false) := by show R = false; rw [HT.out, hnil]; rfl
      clear hnil
      go_wp2_with (go_at_call 21; refine (znum_is HN.out _ hxs).mono ?_; rintro e w2 ⟨rfl, hb⟩; have HB := Lib.hid (HB.out.trans (hb.mono HB.out.size)); clear hb)
      go_ret
      exact ⟨by rw [HT.out]; rfl, HB.out⟩
    · have hne : x.data.toList ≠ [] := fun e => h0 (by have : x.data.toList.length = x.size := by simp
                                                       rw [← this, e]; rfl)
      have hE : x.toList.isEmpty = false := by rw [zlist, List.isEmpty_eq_false_iff]; exact hne
      have HT : Hid (R = x.data.toList.all isFig) := by
        show R = _
        rw [HT.out, decide_eq_true (by simpa using Nat.pos_of_ne_zero h0)]; rfl
      clear hne
      go_wp2_with (first
        | (go_at_call 21; refine (znum_is HN.out _ hxs).mono ?_; rintro e w2 ⟨rfl, hb⟩; have HB := Lib.hid (HB.out.trans (hb.mono HB.out.size)); clear hb)
        | (go_at_call 26; refine (zdec_any _ _ hxs).mono ?_; rintro e w' ⟨rfl, rfl⟩; rw [← HT.out]))
      go_ret
      exact ⟨by first | rfl | simp, HB.out⟩
end Go.Proofs.YtbdedjokahopmaaDoor

/-
  strings.SplitN at a dot and five parts at most: by the shelf's contract, without what the longer signs ask for.
-/
namespace Go.Proofs.YtbdedjokahopmaaDoor
open Go.RowKit

theorem ib_facts (l : List UInt8) (c : UInt8) : (Lib.indexByte l c = -1 ∧ ∀ b ∈ l, b ≠ c) ∨ ∃ i : Nat, Lib.indexByte l c = i ∧ i < l.length ∧ (∀ b ∈ l.take i, b ≠ c) ∧ l.drop i = c :: l.drop (i + 1) := by
  induction l with
  | nil => exact .inl ⟨rfl, by simp⟩
  | cons b l ih =>
    by_cases hb : b = c
    · subst hb
      refine .inr ⟨0, by simp [Lib.indexByte], by simp, by simp, by simp⟩
    · have e : Lib.indexByte (b :: l) c = if Lib.indexByte l c == -1 then -1 else Lib.indexByte l c + 1 := by
        rw [Lib.indexByte, if_neg (by simpa using hb)]
      rcases ih with ⟨h1, h2⟩ | ⟨i, h1, h2, h3, h4⟩
      · refine .inl ⟨by rw [e, h1]; rfl, fun x hx => ?_⟩
        rcases List.mem_cons.1 hx with rfl | hx
        · exact hb
        · exact h2 x hx
      · refine .inr ⟨i + 1, ?_, by simp; omega, fun x hx => ?_, by simpa using h4⟩
        · rw [e, h1, if_neg (by simp)]; rfl
        · rw [List.take_succ_cons] at hx
          rcases List.mem_cons.1 hx with rfl | hx
          · exact hb
          · exact h3 x hx
theorem spl_cut (k : Nat) (l : List UInt8) : (Lib.splitK [46] 0 k l).length = min (k + 1) (cut7 46 l).length ∧ ((cut7 46 l).length ≤ k + 1 → Lib.splitK [46] 0 k l = cut7 46 l) := by
  induction k generalizing l with
  | zero =>
    have hp : 1 ≤ (cut7 46 l).length := by
      have := cut7_ne 46 l
      cases h : cut7 46 l with
      | nil => exact absurd h this
      | cons _ _ => simp
    refine ⟨by simp [Lib.splitK]; omega, fun h => ?_⟩
    rcases ib_facts l 46 with ⟨_, h2⟩ | ⟨i, h1, h2, h3, h4⟩
    · rw [cut7_end h2]; rfl
    · have e : l = l.take i ++ 46 :: l.drop (i + 1) := by rw [← h4, List.take_append_drop]
      have e2 : cut7 46 l = l.take i :: cut7 46 (l.drop (i + 1)) := by
        have := cut7_seg h3 (l.drop (i + 1))
        rw [← e] at this
        exact this
      rw [e2] at h
      have := cut7_ne 46 (l.drop (i + 1))
      cases h5 : cut7 46 (l.drop (i + 1)) with
      | nil => exact absurd h5 this
      | cons _ _ => rw [h5] at h; simp at h
  | succ k ih =>
    rcases ib_facts l 46 with ⟨h1, h2⟩ | ⟨i, h1, h2, h3, h4⟩
    · have e : Lib.splitK [46] 0 (k + 1) l = [l] := by
        unfold Lib.splitK
        rw [Lib.index_one, h1]; rfl
      rw [e, cut7_end h2]
      exact ⟨by simp, fun _ => rfl⟩
    · have e : l = l.take i ++ 46 :: l.drop (i + 1) := by rw [← h4, List.take_append_drop]
      have e2 : cut7 46 l = l.take i :: cut7 46 (l.drop (i + 1)) := by
        have := cut7_seg h3 (l.drop (i + 1))
        rw [← e] at this
        exact this
      have e3 : Lib.splitK [46] 0 (k + 1) l = l.take i :: Lib.splitK [46] 0 k (l.drop (i + 1)) := by
        rw [Lib.splitK, Lib.index_one, h1, if_neg (by simp)]
        simp
      obtain ⟨a, b⟩ := ih (l.drop (i + 1))
      rw [e2, e3]
      refine ⟨by simp; omega, fun h => ?_⟩
      rw [b (by simpa using h)]
/-- What SplitN gives. -/
def spl5 (l : List UInt8) : List (List UInt8) := Lib.splitK [46] 0 (min 5 (l.length + 1) - 1) l
theorem spl5_few {l : List UInt8} (h : (cut7 46 l).length ≤ 4) : spl5 l = cut7 46 l := by
  have := cut7_length 46 l
  exact (spl_cut _ l).2 (by omega)
theorem spl5_many {l : List UInt8} (h : ¬ (cut7 46 l).length ≤ 4) : (spl5 l).length = 5 := by
  have h1 := cut7_length 46 l
  have h2 := (spl_cut (min 5 (l.length + 1) - 1) l).1
  show (Lib.splitK [46] 0 (min 5 (l.length + 1) - 1) l).length = 5
  omega
theorem btx_data (s : ByteArray) : btx s.data.toList = s := rfl
theorem spl5_bytes (s : ByteArray) : Lib.splitB ⟨#[46]⟩ 0 (min 5 (s.size + 1) - 1) s = (spl5 s.data.toList).map btx := by
  have h := Lib.splitB_data ⟨#[46]⟩ 0 (min 5 (s.size + 1) - 1) s
  have e : spl5 s.data.toList = (Lib.splitB ⟨#[46]⟩ 0 (min 5 (s.size + 1) - 1) s).map (·.data.toList) := by
    rw [h]
    show Lib.splitK [46] 0 _ _ = _
    have : s.data.toList.length = s.size := by simp
    rw [this]
  rw [e, List.map_map]
  conv => lhs; rw [← List.map_id (Lib.splitB ⟨#[46]⟩ 0 (min 5 (s.size + 1) - 1) s)]
  refine List.map_congr_left fun x _ => ?_
  exact (btx_data x).symm

set_option maxHeartbeats 1000000 in
theorem zsplit_any (s : ByteArray) (w : World) (hs : s.size ≤ 10000) :
    Calls Tryd.prog 18 #[.string s, .string ⟨#[46]⟩, .int .i64 5] w (PartsPost (spl5 s.data.toList) w) := by
  have HG : Hid (Calls Tryd.prog 31 #[.string s, .string ⟨#[46]⟩, .int .i64 0, .int .i64 5] w (PartsPost (spl5 s.data.toList) w)) := by
    show Calls _ _ _ _ _
    refine (Any.strings_genSplit_core (ρ := lays147_ren) { lays147 with } (by kernel_rfl) s ⟨#[46]⟩ 0 5 (min 5 (s.size + 1)) w (by omega) (by decide) (by omega)
      (fun x c hx => ?_) ?_ (by decide) (by decide) (by rw [if_neg (by decide)]; omega)).mono ?_
    · refine (Any.strings_Index_one (ρ := lays147_ren) { lays147 with } x 46 _).mono fun e w' ⟨he, hw⟩ => ⟨?_, hw⟩
      rw [he]
      show _ = Ending.returned (.int .i64 (Lib.index x.data.toList [46]))
      rw [Lib.index_one]
    · refine (Any.strings_Count_one (ρ := lays147_ren) { lays147 with } s 46 w).mono fun e w' ⟨he, hw⟩ => ⟨?_, hw⟩
      rw [he]
      show _ = Ending.returned (Value.int .i64 ((Lib.count s.data.toList [46] : Nat) : Int))
      rw [Lib.count_one]
      rfl
    · rintro e w' ⟨rfl, rfl⟩
      rw [spl5_bytes]
      refine ⟨some ⟨w.heap.size, 0, none⟩, min 5 (s.size + 1), by rw [List.length_map], ?_, ?_, (Below.refl _ _).alloc (Nat.le_refl _) _⟩
      · have h1 := (spl_cut (min 5 (s.data.toList.length + 1) - 1) s.data.toList).1
        have : s.data.toList.length = s.size := by simp
        show (Lib.splitK [46] 0 (min 5 (s.data.toList.length + 1) - 1) s.data.toList).length ≤ _
        omega
      · intro i c hc
        refine ⟨w.heap.size, 0, rfl, by simp, ?_⟩
        have := heap_alloc_new w (.cells (Lib.cellsOf ((spl5 s.data.toList).map btx) (min 5 (s.size + 1))) 9)
        obtain ⟨h1, h2⟩ := List.getElem?_eq_some_iff.1 hc
        have hx : (Lib.cellsOf ((spl5 s.data.toList).map btx) (min 5 (s.size + 1)))[i]? = some (.string c) := by
          unfold Lib.cellsOf
          rw [List.getElem?_toArray, List.getElem?_append_left (by rw [List.length_map]; exact h1), List.getElem?_map, hc]
          rfl
        rw [Nat.zero_add]
        have e31 : lays147_ren.t 9 = 9 := rfl
        rw [e31]
        simp only [World.cell?, this]
        exact hx
  have HG := HG.out
  go_enter Tryd.func18, Tryd.ntmps18
  go_wp2_with (go_at_call 31; refine HG.mono ?_; rintro e w1 ⟨A, c, rfl, hcap, hstr, hb⟩; have HH := Lib.hid (And.intro hcap (And.intro hstr hb)); clear hcap hstr hb)
  go_ret
  exact ⟨A, c, rfl, HH.out⟩
end Go.Proofs.YtbdedjokahopmaaDoor

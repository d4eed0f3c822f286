/-
  errors.as and errors.As by their contracts, at the targets *Errno and **Fail.
-/
import Derived.Test.YtcndcdkcbkjbaaaDoorFReflect
namespace Go.Proofs.YtcndcdkcbkjbaaaDoor
open Go.RowKit Go.Extern.Stop Go.Stop Go.Extern

theorem rlm (z : Sem Value) (f : TypeId → Addr → Nat → Nat → Sem Value) (v : Value) :
    ReflectliteValue.method z f #[v] = (do match ← ReflectliteValue.parts v with | none => z | some (t, a, fl) => f t a fl (fl % 32)) := rfl
theorem rls (v x : Value) : ∃ s1 s2 s3 s4 s5 : String, ReflectliteValue.set #[v, x] = (do
    let (some (dst, a, fl), some (src, b, _)) := (← ReflectliteValue.parts v, ← ReflectliteValue.parts x)
      | unsupported (.noEntry s1)
    if fl / ReflectliteValue.flagAddr % 2 == 0 then unsupported (.noEntry s2)
    let val ← loadVar src b
    if ← Rtype.directlyAssignable dst src then storeVar dst a val
    else if ← Rtype.implements dst src then
      if (← Rtype.kind src) == 20 then
        match val with
        | .nilIface => unsupported (.noEntry s3)
        | _ => storeVar dst a val
      else storeVar dst a (.iface src val)
    else panicString (s4 ++ (← Rtype.spelt src) ++ s5 ++ (← Rtype.spelt dst))
    pure (.tuple #[])) := ⟨_, _, _, _, _, rfl⟩

theorem below_set {B : Nat} {w w' : World} (hb : Below B w w') (t : Addr) (v : Value) : Below B (w.setCell t v) (w'.setCell t v) := by
  refine ⟨hb.os, hb.tape, hb.output, by simpa [World.setCell] using hb.size, fun k hk => ?_⟩
  simp only [World.setCell, Array.getElem?_modify, hb.block k hk]


theorem isNilE (a p : Addr) (W : World) (ha : W.cell? a = some (.pointer (some p))) :
    (ReflectliteValue.method (ReflectliteValue.valueError "reflectlite.Value.IsNil" 0) ReflectliteValue.isNil #[.agg #[.pointer (some ⟨5, 65, none⟩), .pointer (some a), .int .u64 150]]).run Tryd.prog W = .ok (.bool false) W := by
  rw [rlm]
  simp only [Sem.run_bind, partsPE, Result.andThen]
  simp [ReflectliteValue.isNil, loadVar, isAgg, underlying, Tryd.underlying65, ha, Result.andThen]
theorem elemVE (a p : Addr) (W : World) (ha : W.cell? a = some (.pointer (some p))) :
    (ReflectliteValue.method (ReflectliteValue.valueError "reflectlite.Value.Elem" 0) ReflectliteValue.elem #[.agg #[.pointer (some ⟨5, 65, none⟩), .pointer (some a), .int .u64 150]]).run Tryd.prog W
      = .ok (.agg #[.pointer (some ⟨5, 33, none⟩), .pointer (some p), .int .u64 386]) W := by
  rw [rlm]
  simp only [Sem.run_bind, partsPE, Result.andThen]
  simp [ReflectliteValue.elem, loadVar, isAgg, underlying, Tryd.underlying65, ha, Result.andThen, elemOfE, mkE]
theorem setE (ta b : Addr) (n : Int) (old : Value) (W : World) (hb : W.cell? b = some (.int .i64 n)) (ht : W.cell? ta = some old) (hf : W.frozen? ta = false) :
    (ReflectliteValue.set #[.agg #[.pointer (some ⟨5, 33, none⟩), .pointer (some ta), .int .u64 386], .agg #[.pointer (some ⟨5, 33, none⟩), .pointer (some b), .int .u64 130]]).run Tryd.prog W
      = .ok (.tuple #[]) (W.setCell ta (.int .i64 n)) := by
  obtain ⟨s1, s2, s3, s4, s5, hrls⟩ := rls (.agg #[.pointer (some ⟨5, 33, none⟩), .pointer (some ta), .int .u64 386]) (.agg #[.pointer (some ⟨5, 33, none⟩), .pointer (some b), .int .u64 130])
  rw [hrls]
  simp only [Sem.run_bind, partsAE, partsVE, Result.andThen]
  simp [ReflectliteValue.flagAddr, loadVar, isAgg, underlying, Tryd.underlying33, hb, Result.andThen, directE, storeVar, Value.cells, storeCells, Addr.add]
  rw [run_store Tryd.prog W ta _ _ (by rfl)]
  simp [ht, hf]


theorem setF (ta b : Addr) (e : Addr) (old : Value) (W : World) (hb : W.cell? b = some (.pointer (some e))) (ht : W.cell? ta = some old) (hf : W.frozen? ta = false) :
    (ReflectliteValue.set #[.agg #[.pointer (some ⟨5, 61, none⟩), .pointer (some ta), .int .u64 406], .agg #[.pointer (some ⟨5, 61, none⟩), .pointer (some b), .int .u64 150]]).run Tryd.prog W
      = .ok (.tuple #[]) (W.setCell ta (.pointer (some e))) := by
  obtain ⟨s1, s2, s3, s4, s5, hrls⟩ := rls (.agg #[.pointer (some ⟨5, 61, none⟩), .pointer (some ta), .int .u64 406]) (.agg #[.pointer (some ⟨5, 61, none⟩), .pointer (some b), .int .u64 150])
  rw [hrls]
  simp only [Sem.run_bind, partsAF, partsVF, Result.andThen]
  simp [ReflectliteValue.flagAddr, loadVar, isAgg, underlying, Tryd.underlying61, hb, Result.andThen, directF, storeVar, Value.cells, storeCells, Addr.add]
  rw [run_store Tryd.prog W ta _ _ (by rfl)]
  simp [ht, hf]


/-- What errors.As tells of a chain for a number. -/
def AsPost (w : World) (t : Addr) (o : Option Int) (e : Ending) (w' : World) : Prop :=
  match o with
  | some n => e = .returned (.bool true) ∧ Below w.heap.size (w.setCell t (.int .i64 n)) w'
  | none => e = .returned (.bool false) ∧ Below w.heap.size w w'

def AsRel (w w1 : World) (o : Option Int) (k : Nat) (p : Value) (wr : World) : Prop :=
  wr = w1 ∧ p ≠ .nilIface ∧ ∃ cs, cs.length = k ∧ Chain w cs o p

set_option maxHeartbeats 4000000 in
set_option maxRecDepth 100000 in
theorem as1_errno (cs : List ByteArray) (o : Option Int) (u : TypeId) (x : Value) (t a : Addr) (old : Value) (w : World) (hc : Chain w cs o (.iface u x)) (ha : w.cell? a = some (.pointer (some t)))
    (ht0 : w.cell? t = some old) (hf0 : w.frozen? t = false) :
    Calls Tryd.prog 55 #[.iface u x, .iface 65 (.pointer (some t)), .agg #[.pointer (some ⟨5, 65, none⟩), .pointer (some a), .int .u64 150], .iface 67 (.agg #[.pointer (some ⟨5, 33, none⟩)])] w (AsPost w t o) := by
  have HC := Lib.hid hc
  clear hc
  have x25 := @run_callFunc_extern Tryd.prog 33 _ ReflectliteType.typeOf Tryd.func33 (by kernel_rfl) (by kernel_rfl) (by kernel_rfl) (by kernel_rfl)
  have x27 := @run_callFunc_extern Tryd.prog 52 _ (fun args => ReflectliteValue.unpack (args.getD 0 (.tuple #[]))) Tryd.func52 (by kernel_rfl) (by kernel_rfl) (by kernel_rfl) (by kernel_rfl)
  have x65 := @run_callFunc_extern Tryd.prog 94 _ (ReflectliteType.relation "AssignableTo" ReflectliteType.assignableTo) Tryd.func94 (by kernel_rfl) (by kernel_rfl) (by kernel_rfl) (by kernel_rfl)
  have x37 := @run_callFunc_extern Tryd.prog 65 _ (ReflectliteValue.method (ReflectliteValue.valueError "reflectlite.Value.Elem" 0) ReflectliteValue.elem) Tryd.func65 (by kernel_rfl) (by kernel_rfl) (by kernel_rfl) (by kernel_rfl)
  have x38 := @run_callFunc_extern Tryd.prog 66 _ ReflectliteValue.set Tryd.func66 (by kernel_rfl) (by kernel_rfl) (by kernel_rfl) (by kernel_rfl)
  have tOE := typeOfE
  have tOF := typeOfF
  have mA := methodAssignableTo
  have aEE := assignEE
  have aFE := assignFE
  have mU := methodUnwrap
  have asE := assertAsE
  have asF := assertAsF
  have o1E := assertOneE
  have o1F := assertOneF
  have omE := assertManyE
  have vE := valueOfErrno
  have hal : a.block < w.heap.size := by
    rcases Nat.lt_or_ge a.block w.heap.size with h | h
    · exact h
    · simp [World.cell?, Array.getElem?_eq_none h] at ha
  have htl : t.block < w.heap.size := by
    rcases Nat.lt_or_ge t.block w.heap.size with h | h
    · exact h
    · simp [World.cell?, Array.getElem?_eq_none h] at ht0
  have el := elemVE a t (w.alloc (.cells #[.pointer (some ⟨5, 65, none⟩), .pointer (some a), .int .u64 150] 88)) (by rw [World.cell?_alloc_lt _ _ a hal]; exact ha)
  go_enter Tryd.func55, Tryd.ntmps55
  go_wp2
  go_loopg [0] cs.length (fun k p wr => AsRel w (w.alloc (.cells #[.pointer (some ⟨5, 65, none⟩), .pointer (some a), .int .u64 150] 88)) o k p wr)
  case atStart => exact ⟨rfl, by simp, cs, rfl, HC.out⟩
  case round =>
    obtain ⟨rfl, hp, ds, hk, hch⟩ := hrel
    cases ds with
    | nil =>
      cases o with
      | none => exact absurd hch hp
      | some n =>
        obtain rfl : _ = Value.iface 33 (.int .i64 n) := hch
        clear hp hk
        have st := setE t ⟨w.heap.size + 1, 0, none⟩ n old ((w.alloc (.cells #[.pointer (some ⟨5, 65, none⟩), .pointer (some a), .int .u64 150] 88)).alloc (.cells #[.int .i64 n] 33))
          (by rw [World.cell?_alloc_at _ _ _ _ (by simp)]; rfl)
          (by rw [World.cell?_alloc_lt _ _ t (by simp; omega), World.cell?_alloc_lt _ _ t htl]; exact ht0)
          (by rw [World.frozen?_alloc_old _ _ t (by simp; omega), World.frozen?_alloc_old _ _ t (Nat.ne_of_lt htl)]; exact hf0)
        go_wp2
        go_ret
        refine ⟨rfl, ?_⟩
        first | exact below_set (((Below.refl _ _).alloc (Nat.le_refl _) _).alloc (by simp) _) t _ | exact ((Below.refl _ _).alloc (by simp [World.setCell]) _).alloc (by simp [World.setCell]) _
    | cons d ds =>
      obtain ⟨b, v', rfl, hlt, hc0, hc1, hrest⟩ := hch
      have HR := Lib.hid hrest
      have HK := Lib.hid hk
      have hq := (World.cell?_alloc_lt w (.cells #[.pointer (some ⟨5, 65, none⟩), .pointer (some a), .int .u64 150] 88) ⟨b, 1, none⟩ hlt).trans hc1
      clear hrest hk hp
      by_cases hv : v' = .nilIface
      · subst hv
        have ho : ds = [] ∧ o = none := by
          cases ds with
          | nil =>
            cases o with
            | none => exact ⟨rfl, rfl⟩
            | some n => exact absurd HR.out (by intro h; cases h)
          | cons e es => obtain ⟨_, _, h, _⟩ := HR.out; cases h
        obtain ⟨rfl, rfl⟩ := ho
        go_wp2_with (go_at_call 92; refine (unwrap_at b _ _ hq).mono ?_; rintro e w' ⟨rfl, rfl⟩)
        go_ret
        exact ⟨rfl, (Below.refl _ _).alloc (Nat.le_refl _) _⟩
      · obtain ⟨u2, x2, rfl⟩ : ∃ u2 x2, v' = .iface u2 x2 := by
          cases ds with
          | nil =>
            cases o with
            | none => exact absurd HR.out hv
            | some n => exact ⟨_, _, HR.out⟩
          | cons e es => obtain ⟨_, _, h, _⟩ := HR.out; exact ⟨_, _, h⟩
        clear hv
        go_wp2_with (go_at_call 92; refine (unwrap_at b _ _ hq).mono ?_; rintro e w' ⟨rfl, rfl⟩)
        go_roundg ds.length
        case measure => rw [← HK.out]; simp
        case rel => exact ⟨rfl, by simp, ds, rfl, HR.out⟩

/-- What errors.As tells of a chain for a Fail. -/
def AsPostF (w : World) (t : Addr) (x : Option Addr) (e : Ending) (w' : World) : Prop :=
  match x with
  | some p => e = .returned (.bool true) ∧ Below w.heap.size (w.setCell t (.pointer (some p))) w'
  | none => e = .returned (.bool false) ∧ Below w.heap.size w w'

theorem AsPost.of {w w2 : World} (hb : Below w.heap.size w w2) {t : Addr} {o : Option Int} {e : Ending} {w' : World} (h : AsPost w2 t o e w') : AsPost w t o e w' := by
  cases o with
  | none => exact ⟨h.1, hb.trans (h.2.mono hb.size)⟩
  | some n => exact ⟨h.1, (below_set hb t _).trans (h.2.mono hb.size)⟩
theorem AsPostF.of {w w2 : World} (hb : Below w.heap.size w w2) {t : Addr} {o : Option Addr} {e : Ending} {w' : World} (h : AsPostF w2 t o e w') : AsPostF w t o e w' := by
  cases o with
  | none => exact ⟨h.1, hb.trans (h.2.mono hb.size)⟩
  | some n => exact ⟨h.1, (below_set hb t _).trans (h.2.mono hb.size)⟩
theorem AsPost.ret {w : World} {t : Addr} {o : Option Int} {e : Ending} {w' : World} (h : AsPost w t o e w') : ∃ b, e = .returned (.bool b) := by
  cases o with
  | none => exact ⟨_, h.1⟩
  | some n => exact ⟨_, h.1⟩
theorem AsPostF.ret {w : World} {t : Addr} {o : Option Addr} {e : Ending} {w' : World} (h : AsPostF w t o e w') : ∃ b, e = .returned (.bool b) := by
  cases o with
  | none => exact ⟨_, h.1⟩
  | some n => exact ⟨_, h.1⟩
end Go.Proofs.YtcndcdkcbkjbaaaDoor

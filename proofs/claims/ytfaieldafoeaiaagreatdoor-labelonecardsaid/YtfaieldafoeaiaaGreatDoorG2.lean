/-
  In this text, one behind the other: FAs, FAsTop, FWord, FFind, NMath, NMath2, NMath3, NMath4, NSmall, App, QSmall, PBld.
-/
import Derived.Defers
import Derived.Recover
import Derived.RegionTactic
import Derived.ChangeAlike
import Derived.Laws.Cover4
import Derived.Laws.AppendOwnNone
import Derived.Shelf.Strings.Builder1
import Derived.Test.YtfaieldafoeaiaaGreatDoorG1
/-
  errors.as and errors.As by their contracts, at the targets *Errno and **Fail.
-/
namespace Go.Proofs.YtfaieldafoeaiaaGreatDoor
open Go.RowKit Go.Extern.Stop Go.Stop Go.Extern

theorem rlm (z : Sem Value) (f : TypeId → Addr → Nat → Nat → Sem Value) (v : Value) :
    ReflectliteValue.method z f #[v] = (do match ← ReflectliteValue.parts v with | none => z | some (t, a, fl) => f t a fl (fl % 32)) := rfl
theorem rls (v x : Value) : ∃ s1 s2 s3 s4 s5 : String, ReflectliteValue.set #[v, x] = (do
    let (some (dst, a, fl), some (src, b, _)) := (← ReflectliteValue.parts v, ← ReflectliteValue.parts x)
      | unsupported (.noEntry s1)
    if fl / ReflectliteValue.flagAddr % 2 == 0 then unsupported (.noEntry s2)
    let val ← loadVar src b
    if ← Rtype.directlyAssignable dst src then storeVar dst a val
    else if ← Rtype.implements dst src then
      if (← Rtype.kind src) == 20 then
        match val with
        | .nilIface => unsupported (.noEntry s3)
        | _ => storeVar dst a val
      else storeVar dst a (.iface src val)
    else panicString (s4 ++ (← Rtype.spelt src) ++ s5 ++ (← Rtype.spelt dst))
    pure (.tuple #[])) := ⟨_, _, _, _, _, rfl⟩

theorem below_set {B : Nat} {w w' : World} (hb : Below B w w') (t : Addr) (v : Value) : Below B (w.setCell t v) (w'.setCell t v) := by
  refine ⟨hb.os, hb.tape, hb.output, by simpa [World.setCell] using hb.size, fun k hk => ?_⟩
  simp only [World.setCell, Array.getElem?_modify, hb.block k hk]


theorem isNilE (a p : Addr) (W : World) (ha : W.cell? a = some (.pointer (some p))) :
    (ReflectliteValue.method (ReflectliteValue.valueError "reflectlite.Value.IsNil" 0) ReflectliteValue.isNil #[.agg #[.pointer (some ⟨6, 88, none⟩), .pointer (some a), .int .u64 150]]).run Tryz.prog W = .ok (.bool false) W := by
  rw [rlm]
  simp only [Sem.run_bind, partsPE, Result.andThen]
  simp [ReflectliteValue.isNil, loadVar, isAgg, underlying, Tryz.underlying88, ha, Result.andThen]
theorem elemVE (a p : Addr) (W : World) (ha : W.cell? a = some (.pointer (some p))) :
    (ReflectliteValue.method (ReflectliteValue.valueError "reflectlite.Value.Elem" 0) ReflectliteValue.elem #[.agg #[.pointer (some ⟨6, 88, none⟩), .pointer (some a), .int .u64 150]]).run Tryz.prog W
      = .ok (.agg #[.pointer (some ⟨6, 30, none⟩), .pointer (some p), .int .u64 386]) W := by
  rw [rlm]
  simp only [Sem.run_bind, partsPE, Result.andThen]
  simp [ReflectliteValue.elem, loadVar, isAgg, underlying, Tryz.underlying88, ha, Result.andThen, elemOfE, mkE]
theorem setE (ta b : Addr) (n : Int) (old : Value) (W : World) (hb : W.cell? b = some (.int .i64 n)) (ht : W.cell? ta = some old) (hf : W.frozen? ta = false) :
    (ReflectliteValue.set #[.agg #[.pointer (some ⟨6, 30, none⟩), .pointer (some ta), .int .u64 386], .agg #[.pointer (some ⟨6, 30, none⟩), .pointer (some b), .int .u64 130]]).run Tryz.prog W
      = .ok (.tuple #[]) (W.setCell ta (.int .i64 n)) := by
  obtain ⟨s1, s2, s3, s4, s5, hrls⟩ := rls (.agg #[.pointer (some ⟨6, 30, none⟩), .pointer (some ta), .int .u64 386]) (.agg #[.pointer (some ⟨6, 30, none⟩), .pointer (some b), .int .u64 130])
  rw [hrls]
  simp only [Sem.run_bind, partsAE, partsVE, Result.andThen]
  simp [ReflectliteValue.flagAddr, loadVar, isAgg, underlying, Tryz.underlying30, hb, Result.andThen, directE, storeVar, Value.cells, storeCells, Addr.add]
  rw [run_store Tryz.prog W ta _ _ (by rfl)]
  simp [ht, hf]


theorem setF (ta b : Addr) (e : Addr) (old : Value) (W : World) (hb : W.cell? b = some (.pointer (some e))) (ht : W.cell? ta = some old) (hf : W.frozen? ta = false) :
    (ReflectliteValue.set #[.agg #[.pointer (some ⟨6, 108, none⟩), .pointer (some ta), .int .u64 406], .agg #[.pointer (some ⟨6, 108, none⟩), .pointer (some b), .int .u64 150]]).run Tryz.prog W
      = .ok (.tuple #[]) (W.setCell ta (.pointer (some e))) := by
  obtain ⟨s1, s2, s3, s4, s5, hrls⟩ := rls (.agg #[.pointer (some ⟨6, 108, none⟩), .pointer (some ta), .int .u64 406]) (.agg #[.pointer (some ⟨6, 108, none⟩), .pointer (some b), .int .u64 150])
  rw [hrls]
  simp only [Sem.run_bind, partsAF, partsVF, Result.andThen]
  simp [ReflectliteValue.flagAddr, loadVar, isAgg, underlying, Tryz.underlying108, hb, Result.andThen, directF, storeVar, Value.cells, storeCells, Addr.add]
  rw [run_store Tryz.prog W ta _ _ (by rfl)]
  simp [ht, hf]


/-- What errors.As tells of a chain for a number. -/
def AsPost (w : World) (t : Addr) (o : Option Int) (e : Ending) (w' : World) : Prop :=
  match o with
  | some n => e = .returned (.bool true) ∧ Below w.heap.size (w.setCell t (.int .i64 n)) w'
  | none => e = .returned (.bool false) ∧ Below w.heap.size w w'

def AsRel (w w1 : World) (o : Option Int) (k : Nat) (p : Value) (wr : World) : Prop :=
  wr = w1 ∧ p ≠ .nilIface ∧ ∃ cs, cs.length = k ∧ Chain w cs o p

set_option maxHeartbeats 4000000 in
set_option maxRecDepth 100000 in
theorem as1_errno (cs : List ByteArray) (o : Option Int) (u : TypeId) (x : Value) (t a : Addr) (old : Value) (w : World) (hc : Chain w cs o (.iface u x)) (ha : w.cell? a = some (.pointer (some t)))
    (ht0 : w.cell? t = some old) (hf0 : w.frozen? t = false) :
    Calls Tryz.prog 89 #[.iface u x, .iface 88 (.pointer (some t)), .agg #[.pointer (some ⟨6, 88, none⟩), .pointer (some a), .int .u64 150], .iface 97 (.agg #[.pointer (some ⟨6, 30, none⟩)])] w (AsPost w t o) := by
  have HC := Lib.hid hc
  clear hc
  have x25 := @run_callFunc_extern Tryz.prog 37 _ ReflectliteType.typeOf Tryz.func37 (by kernel_rfl) (by kernel_rfl) (by kernel_rfl) (by kernel_rfl)
  have x27 := @run_callFunc_extern Tryz.prog 86 _ (fun args => ReflectliteValue.unpack (args.getD 0 (.tuple #[]))) Tryz.func86 (by kernel_rfl) (by kernel_rfl) (by kernel_rfl) (by kernel_rfl)
  have x65 := @run_callFunc_extern Tryz.prog 129 _ (ReflectliteType.relation "AssignableTo" ReflectliteType.assignableTo) Tryz.func129 (by kernel_rfl) (by kernel_rfl) (by kernel_rfl) (by kernel_rfl)
  have x37 := @run_callFunc_extern Tryz.prog 101 _ (ReflectliteValue.method (ReflectliteValue.valueError "reflectlite.Value.Elem" 0) ReflectliteValue.elem) Tryz.func101 (by kernel_rfl) (by kernel_rfl) (by kernel_rfl) (by kernel_rfl)
  have x38 := @run_callFunc_extern Tryz.prog 102 _ ReflectliteValue.set Tryz.func102 (by kernel_rfl) (by kernel_rfl) (by kernel_rfl) (by kernel_rfl)
  have tOE := typeOfE
  have tOF := typeOfF
  have mA := methodAssignableTo
  have aEE := assignEE
  have aFE := assignFE
  have mU := methodUnwrap
  have asE := assertAsE
  have asF := assertAsF
  have o1E := assertOneE
  have o1F := assertOneF
  have omE := assertManyE
  have vE := valueOfErrno
  have hal : a.block < w.heap.size := by
    rcases Nat.lt_or_ge a.block w.heap.size with h | h
    · exact h
    · simp [World.cell?, Array.getElem?_eq_none h] at ha
  have htl : t.block < w.heap.size := by
    rcases Nat.lt_or_ge t.block w.heap.size with h | h
    · exact h
    · simp [World.cell?, Array.getElem?_eq_none h] at ht0
  have el := elemVE a t (w.alloc (.cells #[.pointer (some ⟨6, 88, none⟩), .pointer (some a), .int .u64 150] 128)) (by rw [World.cell?_alloc_lt _ _ a hal]; exact ha)
  go_enter Tryz.func89, Tryz.ntmps89
  go_wp2
  go_loopg [0] cs.length (fun k p wr => AsRel w (w.alloc (.cells #[.pointer (some ⟨6, 88, none⟩), .pointer (some a), .int .u64 150] 128)) o k p wr)
  case atStart => exact ⟨rfl, by simp, cs, rfl, HC.out⟩
  case round =>
    obtain ⟨rfl, hp, ds, hk, hch⟩ := hrel
    cases ds with
    | nil =>
      cases o with
      | none => exact absurd hch hp
      | some n =>
        obtain rfl : _ = Value.iface 30 (.int .i64 n) := hch
        clear hp hk
        have st := setE t ⟨w.heap.size + 1, 0, none⟩ n old ((w.alloc (.cells #[.pointer (some ⟨6, 88, none⟩), .pointer (some a), .int .u64 150] 128)).alloc (.cells #[.int .i64 n] 30))
          (by rw [World.cell?_alloc_at _ _ _ _ (by simp)]; rfl)
          (by rw [World.cell?_alloc_lt _ _ t (by simp; omega), World.cell?_alloc_lt _ _ t htl]; exact ht0)
          (by rw [World.frozen?_alloc_old _ _ t (by simp; omega), World.frozen?_alloc_old _ _ t (Nat.ne_of_lt htl)]; exact hf0)
        go_wp2
        go_ret
        refine ⟨rfl, ?_⟩
        first | exact below_set (((Below.refl _ _).alloc (Nat.le_refl _) _).alloc (by simp) _) t _ | exact ((Below.refl _ _).alloc (by simp [World.setCell]) _).alloc (by simp [World.setCell]) _
    | cons d ds =>
      obtain ⟨b, v', rfl, hlt, hc0, hc1, hrest⟩ := hch
      have HR := Lib.hid hrest
      have HK := Lib.hid hk
      have hq := (World.cell?_alloc_lt w (.cells #[.pointer (some ⟨6, 88, none⟩), .pointer (some a), .int .u64 150] 128) ⟨b, 1, none⟩ hlt).trans hc1
      clear hrest hk hp
      by_cases hv : v' = .nilIface
      · subst hv
        have ho : ds = [] ∧ o = none := by
          cases ds with
          | nil =>
            cases o with
            | none => exact ⟨rfl, rfl⟩
            | some n => exact absurd HR.out (by intro h; cases h)
          | cons e es => obtain ⟨_, _, h, _⟩ := HR.out; cases h
        obtain ⟨rfl, rfl⟩ := ho
        go_wp2_with (go_at_call 140; refine (unwrap_at b _ _ hq).mono ?_; rintro e w' ⟨rfl, rfl⟩)
        go_ret
        exact ⟨rfl, (Below.refl _ _).alloc (Nat.le_refl _) _⟩
      · obtain ⟨u2, x2, rfl⟩ : ∃ u2 x2, v' = .iface u2 x2 := by
          cases ds with
          | nil =>
            cases o with
            | none => exact absurd HR.out hv
            | some n => exact ⟨_, _, HR.out⟩
          | cons e es => obtain ⟨_, _, h, _⟩ := HR.out; exact ⟨_, _, h⟩
        clear hv
        go_wp2_with (go_at_call 140; refine (unwrap_at b _ _ hq).mono ?_; rintro e w' ⟨rfl, rfl⟩)
        go_roundg ds.length
        case measure => rw [← HK.out]; simp
        case rel => exact ⟨rfl, by simp, ds, rfl, HR.out⟩

/-- What errors.As tells of a chain for a Fail. -/
def AsPostF (w : World) (t : Addr) (x : Option Addr) (e : Ending) (w' : World) : Prop :=
  match x with
  | some p => e = .returned (.bool true) ∧ Below w.heap.size (w.setCell t (.pointer (some p))) w'
  | none => e = .returned (.bool false) ∧ Below w.heap.size w w'

theorem AsPost.of {w w2 : World} (hb : Below w.heap.size w w2) {t : Addr} {o : Option Int} {e : Ending} {w' : World} (h : AsPost w2 t o e w') : AsPost w t o e w' := by
  cases o with
  | none => exact ⟨h.1, hb.trans (h.2.mono hb.size)⟩
  | some n => exact ⟨h.1, (below_set hb t _).trans (h.2.mono hb.size)⟩
theorem AsPostF.of {w w2 : World} (hb : Below w.heap.size w w2) {t : Addr} {o : Option Addr} {e : Ending} {w' : World} (h : AsPostF w2 t o e w') : AsPostF w t o e w' := by
  cases o with
  | none => exact ⟨h.1, hb.trans (h.2.mono hb.size)⟩
  | some n => exact ⟨h.1, (below_set hb t _).trans (h.2.mono hb.size)⟩
theorem AsPost.ret {w : World} {t : Addr} {o : Option Int} {e : Ending} {w' : World} (h : AsPost w t o e w') : ∃ b, e = .returned (.bool b) := by
  cases o with
  | none => exact ⟨_, h.1⟩
  | some n => exact ⟨_, h.1⟩
theorem AsPostF.ret {w : World} {t : Addr} {o : Option Addr} {e : Ending} {w' : World} (h : AsPostF w t o e w') : ∃ b, e = .returned (.bool b) := by
  cases o with
  | none => exact ⟨_, h.1⟩
  | some n => exact ⟨_, h.1⟩
end Go.Proofs.YtfaieldafoeaiaaGreatDoor

/-
  errors.As by its contracts, at the targets *Errno and **Fail.
-/
namespace Go.Proofs.YtfaieldafoeaiaaGreatDoor
open Go.RowKit Go.Extern.Stop Go.Stop Go.Extern


set_option maxHeartbeats 4000000 in
set_option maxRecDepth 100000 in
theorem as_errno (cs : List ByteArray) (o : Option Int) (u : TypeId) (x : Value) (t : Addr) (old : Value) (w : World) (hc : Chain w cs o (.iface u x))
    (hg : w.cell? ⟨0, 0, none⟩ = some (.iface 97 (.agg #[.pointer (some ⟨6, 25, none⟩)]))) (ht0 : w.cell? t = some old) (hf0 : w.frozen? t = false) :
    Calls Tryz.prog 62 #[.iface u x, .iface 88 (.pointer (some t))] w (AsPost w t o) := by
  have HC := Lib.hid hc
  clear hc
  have x25 := @run_callFunc_extern Tryz.prog 37 _ ReflectliteType.typeOf Tryz.func37 (by kernel_rfl) (by kernel_rfl) (by kernel_rfl) (by kernel_rfl)
  have x27 := @run_callFunc_extern Tryz.prog 86 _ (fun args => ReflectliteValue.unpack (args.getD 0 (.tuple #[]))) Tryz.func86 (by kernel_rfl) (by kernel_rfl) (by kernel_rfl) (by kernel_rfl)
  have x65 := @run_callFunc_extern Tryz.prog 129 _ (ReflectliteType.relation "AssignableTo" ReflectliteType.assignableTo) Tryz.func129 (by kernel_rfl) (by kernel_rfl) (by kernel_rfl) (by kernel_rfl)
  have x37 := @run_callFunc_extern Tryz.prog 101 _ (ReflectliteValue.method (ReflectliteValue.valueError "reflectlite.Value.Elem" 0) ReflectliteValue.elem) Tryz.func101 (by kernel_rfl) (by kernel_rfl) (by kernel_rfl) (by kernel_rfl)
  have x38 := @run_callFunc_extern Tryz.prog 102 _ ReflectliteValue.set Tryz.func102 (by kernel_rfl) (by kernel_rfl) (by kernel_rfl) (by kernel_rfl)
  have x28 := @run_callFunc_extern Tryz.prog 87 _ (ReflectliteValue.methodAny (ReflectliteValue.valueError "reflectlite.Value.Type" 0) (fun t _ _ _ => ReflectliteType.toType t)) Tryz.func87 (by kernel_rfl) (by kernel_rfl) (by kernel_rfl) (by kernel_rfl)
  have x29 := @run_callFunc_extern Tryz.prog 88 _ (ReflectliteValue.method (ReflectliteValue.valueError "reflectlite.Value.IsNil" 0) ReflectliteValue.isNil) Tryz.func88 (by kernel_rfl) (by kernel_rfl) (by kernel_rfl) (by kernel_rfl)
  have x57 := @run_callFunc_extern Tryz.prog 123 _ (ReflectliteType.abiMethod fun t => do pure (.int .u8 (← Rtype.kind t))) Tryz.func123 (by kernel_rfl) (by kernel_rfl) (by kernel_rfl) (by kernel_rfl)
  have x67 := @run_callFunc_extern Tryz.prog 131 _ (ReflectliteType.method ReflectliteType.elem) Tryz.func131 (by kernel_rfl) (by kernel_rfl) (by kernel_rfl) (by kernel_rfl)
  have x68 := @run_callFunc_extern Tryz.prog 132 _ (ReflectliteType.relation "Implements" ReflectliteType.implements_) Tryz.func132 (by kernel_rfl) (by kernel_rfl) (by kernel_rfl) (by kernel_rfl)
  have f1 := valueOfE
  have f2 := typeE
  have f3 := kindPE
  have f4 := kindEE
  have f5 := elemTE
  have f6 := implementsE
  have mK := methodKind
  have mE := methodElem
  have mI := methodImplements
  have htl : t.block < w.heap.size := by
    rcases Nat.lt_or_ge t.block w.heap.size with h | h
    · exact h
    · simp [World.cell?, Array.getElem?_eq_none h] at ht0
  have hgl : 0 < w.heap.size := by
    rcases Nat.lt_or_ge 0 w.heap.size with h | h
    · exact h
    · simp [World.cell?, Array.getElem?_eq_none h] at hg
  have n8 := isNilE ⟨w.heap.size, 0, none⟩ t ((w.alloc (.cells #[.pointer (some t)] 88)).alloc (.cells #[.pointer (some ⟨6, 88, none⟩), .pointer (some ⟨w.heap.size, 0, none⟩), .int .u64 150] 128)) (by simp)
  have hg2 : ((w.alloc (.cells #[.pointer (some t)] 88)).alloc (.cells #[.pointer (some ⟨6, 88, none⟩), .pointer (some ⟨w.heap.size, 0, none⟩), .int .u64 150] 128)).cell? ⟨0, 0, none⟩ = some (.iface 97 (.agg #[.pointer (some ⟨6, 25, none⟩)])) := by
    rw [World.cell?_alloc_lt _ _ ⟨0, 0, none⟩ (Nat.lt_of_lt_of_le hgl (by simp)), World.cell?_alloc_lt _ _ ⟨0, 0, none⟩ hgl]; exact hg
  have hwb : Below w.heap.size w ((w.alloc (.cells #[.pointer (some t)] 88)).alloc (.cells #[.pointer (some ⟨6, 88, none⟩), .pointer (some ⟨w.heap.size, 0, none⟩), .int .u64 150] 128)) := ((Below.refl _ _).alloc (Nat.le_refl _) _).alloc (by simp) _
  have ht2 := (hwb.cell (p := t) htl).trans ht0
  have hf2 := (hwb.frozen (p := t) htl).trans hf0
  clear ht0 hf0 hg
  go_enter Tryz.func62, Tryz.ntmps62
  go_wp2_with (go_at_call 89; refine (as1_errno cs o u x t ⟨w.heap.size, 0, none⟩ old _ (HC.out.below hwb) (by simp) ht2 hf2).mono ?_)
  intro e w' hpost
  obtain ⟨b, rfl⟩ := hpost.ret
  have HP := Lib.hid (AsPost.of hwb hpost)
  clear hpost
  go_wp2
  go_ret
  exact HP.out


end Go.Proofs.YtfaieldafoeaiaaGreatDoor
/-
  The word of an error's number.
-/
namespace Go.Proofs.YtfaieldafoeaiaaGreatDoor
open Go.RowKit

/-- An error's word. -/
def word (n : Int) : ByteArray := ([⟨#[111, 107]⟩, ⟨#[97, 114, 103, 117, 109, 101, 110, 116]⟩, ⟨#[102, 111, 114, 109]⟩, ⟨#[104, 111, 115, 116]⟩, ⟨#[112, 111, 114, 116]⟩, ⟨#[98, 97, 115, 101]⟩, ⟨#[116, 111, 111, 32, 108, 111, 110, 103]⟩, ⟨#[115, 116, 97, 108, 101]⟩, ⟨#[102, 117, 108, 108]⟩, ⟨#[99, 108, 111, 115, 101, 100]⟩, ⟨#[110, 111, 110, 101]⟩] : List ByteArray).getD n.toNat ⟨#[]⟩
theorem word_size (n : Int) : (word n).size ≤ 8 := by
  unfold word
  rcases Nat.lt_or_ge n.toNat 11 with h | h
  · have : ∀ k, k < 11 → (([⟨#[111, 107]⟩, ⟨#[97, 114, 103, 117, 109, 101, 110, 116]⟩, ⟨#[102, 111, 114, 109]⟩, ⟨#[104, 111, 115, 116]⟩, ⟨#[112, 111, 114, 116]⟩, ⟨#[98, 97, 115, 101]⟩, ⟨#[116, 111, 111, 32, 108, 111, 110, 103]⟩, ⟨#[115, 116, 97, 108, 101]⟩, ⟨#[102, 117, 108, 108]⟩, ⟨#[99, 108, 111, 115, 101, 100]⟩, ⟨#[110, 111, 110, 101]⟩] : List ByteArray).getD k ⟨#[]⟩).size ≤ 8 := by decide
    exact this _ h
  · rw [List.getD_eq_getElem?_getD, List.getElem?_eq_none h]; decide

def Returns (v : Value) (w : World) (e : Ending) (w' : World) : Prop := e = .returned v ∧ Below w.heap.size w w'

end Go.Proofs.YtfaieldafoeaiaaGreatDoor

/-
  find of package fail, at both of its types, and Code.
-/
namespace Go.Proofs.YtfaieldafoeaiaaGreatDoor
open Go.RowKit

/-- The variable errors.errorType holds its handle. -/
def Ready (w : World) : Prop := w.cell? ⟨0, 0, none⟩ = some (.iface 97 (.agg #[.pointer (some ⟨6, 25, none⟩)]))
theorem Ready.lt {w : World} (h : Ready w) : 0 < w.heap.size := by
  rcases Nat.lt_or_ge 0 w.heap.size with h' | h'
  · exact h'
  · simp [Ready, World.cell?, Array.getElem?_eq_none h'] at h
theorem Ready.below {w w' : World} (h : Ready w) (hb : Below w.heap.size w w') : Ready w' := (hb.cell (p := ⟨0, 0, none⟩) h.lt).trans h


theorem find1_idleE (p q : Addr) (w : World) :
    CallsD Tryz.prog 61 #[.pointer (some p), .pointer (some q)] .returning w fun e u' w' => e = .returned (.tuple #[]) ∧ u' = .returning ∧ w = w' := by
  refine callsD_of_wpS Tryz.func61 rfl fun c₀ cs hu => ?_
  apply wpS_seq
  apply wpS_region
  simp [wpOpsS, go_sem, recoverD, hu, Tryz.ntmps61, Exit.thenS]
  refine wpS_cond (t := false) (by simp [Act.eval, Array.replicate]) ?_
  simp only [Bool.false_eq_true, if_false]
  refine wpS_of_wp (wp_skip ?_)
  cases c₀
  simp_all [bodyPostS, results, Tryz.results61]

/-- What find leaves: its two results, and nothing old turned. -/
def FindPostE (w : World) (v : Value) (b : Bool) (e : Ending) (w' : World) : Prop := e = .returned (.tuple #[v, .bool b]) ∧ Below w.heap.size w w'


/-- What find leaves: its two results, and nothing old turned. -/
def FindPostF (w : World) (v : Value) (b : Bool) (e : Ending) (w' : World) : Prop := e = .returned (.tuple #[v, .bool b]) ∧ Below w.heap.size w w'


set_option maxHeartbeats 2000000 in
set_option maxRecDepth 100000 in
theorem find_errno (cs : List ByteArray) (n : Int) (u : TypeId) (x : Value) (w : World) (hc : Chain w cs (some n) (.iface u x)) (hg : Ready w) :
    Calls Tryz.prog 28 #[.iface u x] w (FindPostE w (.int .i64 n) true) := by
  have hmf : ∀ (fn : Fn) (first cap : Array Value) (w : World), (Instr.makeFunc fn first cap).run Tryz.prog w = .ok (.func fn first cap) w := fun _ _ _ _ => rfl
  have HC := Lib.hid hc
  clear hc
  have hwb : Below w.heap.size w ((w.alloc (.cells #[.int .i64 0] 30)).alloc (.cells #[.bool false] 4)) := ((Below.refl _ _).alloc (Nat.le_refl _) _).alloc (by simp) _
  have hg2 : Ready ((w.alloc (.cells #[.int .i64 0] 30)).alloc (.cells #[.bool false] 4)) := hg.below hwb
  have hc0 : ((w.alloc (.cells #[.int .i64 0] 30)).alloc (.cells #[.bool false] 4)).cell? ⟨w.heap.size, 0, none⟩ = some (.int .i64 0) := by simp
  have hf0 : ((w.alloc (.cells #[.int .i64 0] 30)).alloc (.cells #[.bool false] 4)).frozen? ⟨w.heap.size, 0, none⟩ = false := by simp
  have HG := Lib.hid hg
  clear hg
  go_enter_defers Tryz.func28, Tryz.ntmps28
  go_wp2_with (go_at_call 62; refine (as_errno cs (some n) u x ⟨w.heap.size, 0, none⟩ _ _ (HC.out.below hwb) hg2 hc0 hf0).mono ?_)
  rintro e w1 ⟨rfl, hb⟩
  have hs0 : w1.cell? ⟨w.heap.size, 0, none⟩ = some (.int .i64 n) := (hb.cell (p := ⟨w.heap.size, 0, none⟩) (by simp; omega)).trans (World.cell?_setCell_same' _ _ _ (by rw [hc0]; rfl))
  have hs1 : w1.cell? ⟨w.heap.size + 1, 0, none⟩ = some (.bool false) := (hb.cell (p := ⟨w.heap.size + 1, 0, none⟩) (by simp)).trans ((World.cell?_setCell_other _ ⟨w.heap.size, 0, none⟩ ⟨w.heap.size + 1, 0, none⟩ _ (by simp)).trans (by simp))
  have hz0 : w1.frozen? ⟨w.heap.size, 0, none⟩ = false := (hb.frozen (p := ⟨w.heap.size, 0, none⟩) (by simp; omega)).trans ((World.frozen?_setCell _ _ _ _).trans hf0)
  have hz1 : w1.frozen? ⟨w.heap.size + 1, 0, none⟩ = false := (hb.frozen (p := ⟨w.heap.size + 1, 0, none⟩) (by simp)).trans ((World.frozen?_setCell _ _ _ _).trans (by simp))
  have hbw : Below w.heap.size w w1 := ((((Below.refl _ _).alloc (Nat.le_refl _) _).alloc (by simp) _).setCell (p := ⟨w.heap.size, 0, none⟩) (Nat.le_refl _) _).trans (hb.mono (by simp; omega))
  clear hb
  go_wp2
  go_region
  all_goals
    go_wp2
    refine leaves_cons (f := 61) (args := #[.pointer (some ⟨w.heap.size, 0, none⟩), .pointer (some ⟨w.heap.size + 1, 0, none⟩)]) (by simp) (by simp [go_sem]) ?_
    refine (find1_idleE ⟨w.heap.size, 0, none⟩ ⟨w.heap.size + 1, 0, none⟩ _).mono ?_
    rintro e u' w'' ⟨rfl, rfl, rfl⟩
    simp [Leaves, settle, results, Tryz.results28, go_sem, hs0, hs1]
    exact ⟨rfl, (((hbw.setCell (p := ⟨w.heap.size + 1, 0, none⟩) (Nat.le_succ _) _).setCell (p := ⟨w.heap.size, 0, none⟩) (Nat.le_refl _) _).setCell (p := ⟨w.heap.size + 1, 0, none⟩) (Nat.le_succ _) _).drew⟩


set_option maxHeartbeats 2000000 in
set_option maxRecDepth 100000 in
theorem find_errno_no (cs : List ByteArray) (u : TypeId) (x : Value) (w : World) (hc : Chain w cs none (.iface u x)) (hg : Ready w) :
    Calls Tryz.prog 28 #[.iface u x] w (FindPostE w (.int .i64 0) false) := by
  have hmf : ∀ (fn : Fn) (first cap : Array Value) (w : World), (Instr.makeFunc fn first cap).run Tryz.prog w = .ok (.func fn first cap) w := fun _ _ _ _ => rfl
  have HC := Lib.hid hc
  clear hc
  have hwb : Below w.heap.size w ((w.alloc (.cells #[.int .i64 0] 30)).alloc (.cells #[.bool false] 4)) := ((Below.refl _ _).alloc (Nat.le_refl _) _).alloc (by simp) _
  have hg2 : Ready ((w.alloc (.cells #[.int .i64 0] 30)).alloc (.cells #[.bool false] 4)) := hg.below hwb
  have hc0 : ((w.alloc (.cells #[.int .i64 0] 30)).alloc (.cells #[.bool false] 4)).cell? ⟨w.heap.size, 0, none⟩ = some (.int .i64 0) := by simp
  have hf0 : ((w.alloc (.cells #[.int .i64 0] 30)).alloc (.cells #[.bool false] 4)).frozen? ⟨w.heap.size, 0, none⟩ = false := by simp
  have HG := Lib.hid hg
  clear hg
  go_enter_defers Tryz.func28, Tryz.ntmps28
  go_wp2_with (go_at_call 62; refine (as_errno cs none u x ⟨w.heap.size, 0, none⟩ _ _ (HC.out.below hwb) hg2 hc0 hf0).mono ?_)
  rintro e w1 ⟨rfl, hb⟩
  have hs0 : w1.cell? ⟨w.heap.size, 0, none⟩ = some (.int .i64 0) := (hb.cell (p := ⟨w.heap.size, 0, none⟩) (by simp; omega)).trans hc0
  have hs1 : w1.cell? ⟨w.heap.size + 1, 0, none⟩ = some (.bool false) := (hb.cell (p := ⟨w.heap.size + 1, 0, none⟩) (by simp)).trans (by simp)
  have hz0 : w1.frozen? ⟨w.heap.size, 0, none⟩ = false := (hb.frozen (p := ⟨w.heap.size, 0, none⟩) (by simp; omega)).trans hf0
  have hz1 : w1.frozen? ⟨w.heap.size + 1, 0, none⟩ = false := (hb.frozen (p := ⟨w.heap.size + 1, 0, none⟩) (by simp)).trans (by simp)
  have hbw : Below w.heap.size w w1 := ((((Below.refl _ _).alloc (Nat.le_refl _) _).alloc (by simp) _)).trans (hb.mono (by simp; omega))
  clear hb
  go_wp2
  go_region
  all_goals
    go_wp2
    refine leaves_cons (f := 61) (args := #[.pointer (some ⟨w.heap.size, 0, none⟩), .pointer (some ⟨w.heap.size + 1, 0, none⟩)]) (by simp) (by simp [go_sem]) ?_
    refine (find1_idleE ⟨w.heap.size, 0, none⟩ ⟨w.heap.size + 1, 0, none⟩ _).mono ?_
    rintro e u' w'' ⟨rfl, rfl, rfl⟩
    simp [Leaves, settle, results, Tryz.results28, go_sem, hs0, hs1]
    exact ⟨rfl, (((hbw.setCell (p := ⟨w.heap.size + 1, 0, none⟩) (Nat.le_succ _) _).setCell (p := ⟨w.heap.size, 0, none⟩) (Nat.le_refl _) _).setCell (p := ⟨w.heap.size + 1, 0, none⟩) (Nat.le_succ _) _).drew⟩


set_option maxHeartbeats 400000 in
theorem code_nil (w : World) : Calls Tryz.prog 9 #[.nilIface] w fun e w' => e = .returned (.int .i64 0) ∧ w = w' := by
  go_enter Tryz.func9, Tryz.ntmps9
  go_wp2
  go_ret
  exact ⟨rfl, rfl⟩

set_option maxHeartbeats 400000 in
theorem code_some (cs : List ByteArray) (n : Int) (u : TypeId) (x : Value) (w : World) (hc : Chain w cs (some n) (.iface u x)) (hg : Ready w) :
    Calls Tryz.prog 9 #[.iface u x] w (Returns (.int .i64 n) w) := by
  have HC := Lib.hid hc
  have HG := Lib.hid hg
  clear hc hg
  go_enter Tryz.func9, Tryz.ntmps9
  go_wp2_with (go_at_call 28; refine (find_errno cs n u x _ HC.out HG.out).mono ?_; rintro e w1 ⟨rfl, hb⟩)
  go_ret
  exact ⟨rfl, hb⟩

set_option maxHeartbeats 400000 in
theorem code_none (cs : List ByteArray) (u : TypeId) (x : Value) (w : World) (hc : Chain w cs none (.iface u x)) (hg : Ready w) :
    Calls Tryz.prog 9 #[.iface u x] w (Returns (.int .i64 10) w) := by
  have HC := Lib.hid hc
  have HG := Lib.hid hg
  clear hc hg
  go_enter Tryz.func9, Tryz.ntmps9
  go_wp2_with (go_at_call 28; refine (find_errno_no cs u x _ HC.out HG.out).mono ?_; rintro e w1 ⟨rfl, hb⟩)
  go_ret
  exact ⟨rfl, hb⟩

end Go.Proofs.YtfaieldafoeaiaaGreatDoor
/-
  The document of layer 4 as plain functions over lists of numbers, and what follows of them: deltas there and back.
-/
namespace Go.Proofs.YtfaieldafoeaiaaGreatDoor

/-- To adapt a delta. -/
def adaptLoop (d k : Nat) : Nat := if h : 455 < d then adaptLoop (d / 35) (k + 36) else k + 36 * d / (d + 38)
termination_by d
decreasing_by omega
def adapt (delta many : Nat) (once : Bool) : Nat :=
  adaptLoop ((if once then delta / 700 else delta / 2) + (if once then delta / 700 else delta / 2) / many) 0
/-- The threshold at k. -/
def thr (k bias : Nat) : Nat := if k ≤ bias then 1 else if bias + 26 ≤ k then 26 else k - bias
theorem thr_pos (k bias : Nat) : 1 ≤ thr k bias ∧ thr k bias ≤ 26 := by
  unfold thr
  split
  · omega
  · split <;> omega
/-- A number's digit, and a digit's number. -/
def dig (n : Nat) : UInt8 := if n < 26 then UInt8.ofNat (97 + n) else UInt8.ofNat (22 + n)
def dval (c : Int) : Int := if 97 ≤ c ∧ c ≤ 122 then c - 97 else if 65 ≤ c ∧ c ≤ 90 then c - 65 else if 48 ≤ c ∧ c ≤ 57 then c - 48 + 26 else -1
def lower (c : UInt8) : UInt8 := if 65 ≤ c.toNat ∧ c.toNat ≤ 90 then UInt8.ofNat (c.toNat + 32) else c
/-- To tell a number by digits. -/
def tellK (q bias k : Nat) : List UInt8 :=
  if h : q < thr k bias then [dig q] else dig (thr k bias + (q - thr k bias) % (36 - thr k bias)) :: tellK ((q - thr k bias) / (36 - thr k bias)) bias (k + 36)
termination_by q
decreasing_by
  have := thr_pos k bias
  have h1 : (q - thr k bias) / (36 - thr k bias) ≤ q - thr k bias := Nat.div_le_self _ _
  omega
/-- What digits tell: the number so far and the rest; nothing where a digit is wanting, is none, or the number grows too great. -/
def par : List UInt8 → Nat → Nat → Nat → Nat → Option (Nat × List UInt8)
  | [], _, _, _, _ => none
  | c :: s, bias, k, w, i =>
    if dval c.toNat < 0 then none
    else if 1099511627776 < i + (dval c.toNat).toNat * w then none
    else if (dval c.toNat).toNat < thr k bias then some (i + (dval c.toNat).toNat * w, s)
    else if 1099511627776 < w * (36 - thr k bias) then none
    else par s bias (k + 36) (w * (36 - thr k bias)) (i + (dval c.toNat).toNat * w)

theorem dig_val : ∀ n : Fin 36, dval (dig n.val).toNat = n.val ∧ (dig n.val).toNat < 128 ∧ dig n.val ≠ 45 := by decide +kernel
theorem dig_val' (n : Nat) (h : n < 36) : dval (dig n).toNat = n := (dig_val ⟨n, h⟩).1
theorem lower_dig : ∀ n : Fin 256, 0 ≤ dval (n.val : Int) → lower (UInt8.ofNat n.val) = dig (dval (n.val : Int)).toNat ∧ (dval (n.val : Int)).toNat < 36 ∧ n.val ≠ 45 := by decide +kernel
theorem lower_val (c : UInt8) (h : 0 ≤ dval c.toNat) : lower c = dig (dval c.toNat).toNat ∧ (dval c.toNat).toNat < 36 ∧ c.toNat ≠ 45 := by
  have := lower_dig ⟨c.toNat, c.toNat_lt⟩ h
  simpa using this

theorem tellK_small {q bias k : Nat} (h : q < thr k bias) : tellK q bias k = [dig q] := by rw [tellK, dif_pos h]
theorem tellK_more {q bias k : Nat} (h : ¬ q < thr k bias) : tellK q bias k = dig (thr k bias + (q - thr k bias) % (36 - thr k bias)) :: tellK ((q - thr k bias) / (36 - thr k bias)) bias (k + 36) := by
  rw [tellK, dif_neg h]

/-- A number that is told is read. -/
theorem par_tell (bias : Nat) (r : List UInt8) : ∀ (q k w i : Nat), i + q * w ≤ 1099511627776 → 35 * (q * w) ≤ 1099511627776 → par (tellK q bias k ++ r) bias k w i = some (i + q * w, r) := by
  intro q
  induction q using Nat.strongRecOn with
  | _ q ih =>
    intro k w i h1 h2
    have ht := thr_pos k bias
    by_cases h : q < thr k bias
    · rw [tellK_small h]
      show par (dig q :: r) bias k w i = _
      have hd := dig_val' q (by omega)
      unfold par
      rw [hd]
      simp only [Int.toNat_natCast]
      rw [if_neg (by omega), if_neg (by omega), if_pos h]
    · rw [tellK_more h]
      have hm : (q - thr k bias) % (36 - thr k bias) < 36 - thr k bias := Nat.mod_lt _ (by omega)
      have hdm : (36 - thr k bias) * ((q - thr k bias) / (36 - thr k bias)) + (q - thr k bias) % (36 - thr k bias) = q - thr k bias := Nat.div_add_mod _ _
      obtain ⟨d, hde⟩ : ∃ d, thr k bias + (q - thr k bias) % (36 - thr k bias) = d := ⟨_, rfl⟩
      obtain ⟨q', hqe⟩ : ∃ q', (q - thr k bias) / (36 - thr k bias) = q' := ⟨_, rfl⟩
      have hd := dig_val' d (by omega)
      rw [hqe] at hdm
      have hq : d + q' * (36 - thr k bias) = q := by
        have : (36 - thr k bias) * q' = q' * (36 - thr k bias) := Nat.mul_comm _ _
        omega
      have hqw : d * w + q' * (w * (36 - thr k bias)) = q * w := by
        rw [← hq, Nat.add_mul]
        congr 1
        rw [Nat.mul_assoc, Nat.mul_comm w]
      have hq1 : 1 ≤ q := by omega
      have hw : w ≤ q * w := Nat.le_mul_of_pos_left _ hq1
      have hw2 : w * (36 - thr k bias) ≤ w * 35 := Nat.mul_le_mul_left _ (by omega)
      rw [hde, hqe]
      show par (dig d :: (tellK q' bias (k + 36) ++ r)) bias k w i = _
      unfold par
      rw [hd]
      simp only [Int.toNat_natCast]
      rw [if_neg (by omega), if_neg (by omega), if_neg (by omega), if_neg (by omega)]
      rw [ih q' (by
        have h1 : (q - thr k bias) / (36 - thr k bias) ≤ q - thr k bias := Nat.div_le_self _ _
        omega) _ _ _ (by omega) (by omega)]
      congr 2
      omega

/-- What is read is how it is told. -/
theorem tell_par (bias : Nat) : ∀ (s : List UInt8) (k w i j : Nat) (r : List UInt8), par s bias k w i = some (j, r) →
    ∃ q pre, j = i + q * w ∧ s = pre ++ r ∧ pre ≠ [] ∧ pre.map lower = tellK q bias k ∧ j ≤ 1099511627776 := by
  intro s
  induction s with
  | nil => intro k w i j r h; simp [par] at h
  | cons c s ih =>
    intro k w i j r h
    unfold par at h
    split at h
    · cases h
    · rename_i h0
      obtain ⟨hl, h36, _⟩ := lower_val c (by omega)
      have ht := thr_pos k bias
      split at h
      · cases h
      · rename_i h1
        split at h
        · rename_i h2
          simp only [Option.some.injEq, Prod.mk.injEq] at h
          obtain ⟨rfl, rfl⟩ := h
          refine ⟨(dval c.toNat).toNat, [c], rfl, rfl, by simp, ?_, by omega⟩
          rw [tellK_small h2]
          simp [hl]
        · rename_i h2
          split at h
          · cases h
          · obtain ⟨q', pre, rfl, rfl, hne, hp, hb⟩ := ih _ _ _ _ _ h
            obtain ⟨d, hd⟩ : ∃ d, (dval c.toNat).toNat = d := ⟨_, rfl⟩
            rw [hd] at hl h36 h2
            have hcomm : q' * (36 - thr k bias) = (36 - thr k bias) * q' := Nat.mul_comm _ _
            have hsub : d + q' * (36 - thr k bias) - thr k bias = (d - thr k bias) + (36 - thr k bias) * q' := by omega
            have hlt : d - thr k bias < 36 - thr k bias := by omega
            refine ⟨d + q' * (36 - thr k bias), c :: pre, ?_, rfl, by simp, ?_, hb⟩
            · rw [hd, Nat.add_mul, Nat.mul_assoc, Nat.mul_comm w, Nat.add_assoc]
            · rw [tellK_more (by omega), List.map_cons, hl, hsub, Nat.add_mul_mod_self_left, Nat.mod_eq_of_lt hlt, Nat.add_mul_div_left _ _ (by omega), Nat.div_eq_of_lt hlt, Nat.zero_add, hp]
              congr 2
              omega
end Go.Proofs.YtfaieldafoeaiaaGreatDoor

/-
  Punycode's machine: deltas put code points into a list; what a list's deltas are; there and back.
-/
namespace Go.Proofs.YtfaieldafoeaiaaGreatDoor

/-- A list with a number at a place. -/
def ins (cur : List Nat) (p n : Nat) : List Nat := cur.take p ++ n :: cur.drop p
theorem ins_length (cur : List Nat) (p n : Nat) : (ins cur p n).length = cur.length + 1 := by
  simp [ins]; omega
theorem mem_ins {cur : List Nat} {p n x : Nat} : x ∈ ins cur p n ↔ x = n ∨ x ∈ cur := by
  unfold ins
  rw [List.mem_append, List.mem_cons]
  constructor
  · rintro (h | h | h)
    · exact .inr (List.mem_of_mem_take h)
    · exact .inl h
    · exact .inr (List.mem_of_mem_drop h)
  · rintro (h | h)
    · exact .inr (.inl h)
    · rw [← List.take_append_drop p cur, List.mem_append] at h
      rcases h with h | h
      · exact .inl h
      · exact .inr (.inr h)

/-- Deltas put numbers into a list. -/
def runD : List Nat → List Nat → Nat → Nat → List Nat × Nat × Nat
  | [], cur, n, i => (cur, n, i)
  | d :: ds, cur, n, i => runD ds (ins cur ((i + d) % (cur.length + 1)) (n + (i + d) / (cur.length + 1))) (n + (i + d) / (cur.length + 1)) ((i + d) % (cur.length + 1) + 1)

theorem runD_append (xs bs : List Nat) : ∀ (cur : List Nat) (n i : Nat), runD (xs ++ bs) cur n i = runD bs (runD xs cur n i).1 (runD xs cur n i).2.1 (runD xs cur n i).2.2 := by
  induction xs with
  | nil => intro cur n i; rfl
  | cons d xs ih => intro cur n i; exact ih _ _ _
theorem runD_length (ds : List Nat) : ∀ (cur : List Nat) (n i : Nat), (runD ds cur n i).1.length = cur.length + ds.length := by
  induction ds with
  | nil => intro cur n i; rfl
  | cons d ds ih =>
    intro cur n i
    show (runD ds _ _ _).1.length = _
    rw [ih, ins_length, List.length_cons]; omega
theorem runD_mem (ds : List Nat) : ∀ (cur : List Nat) (n i x : Nat), x ∈ cur → x ∈ (runD ds cur n i).1 := by
  induction ds with
  | nil => intro cur n i x h; exact h
  | cons d ds ih => intro cur n i x h; exact ih _ _ _ _ (mem_ins.2 (.inr h))
/-- What is put in is not below the first number; the rest stays. -/
theorem runD_filter (ds : List Nat) : ∀ (cur : List Nat) (n i b : Nat), b ≤ n → (runD ds cur n i).1.filter (· < b) = cur.filter (· < b) := by
  induction ds with
  | nil => intro cur n i b h; rfl
  | cons d ds ih =>
    intro cur n i b h
    show (runD ds _ _ _).1.filter _ = _
    rw [ih _ _ _ _ (Nat.le_trans h (Nat.le_add_right _ _))]
    unfold ins
    rw [List.filter_append, List.filter_cons_of_neg (by simpa using Nat.le_trans h (Nat.le_add_right _ _)), ← List.filter_append, List.take_append_drop]

/-! What a list's deltas are. -/

/-- A pass: the deltas of all that are n, and what is pending. -/
def scan (n : Nat) : List Nat → Nat → List Nat × Nat
  | [], d => ([], d)
  | c :: l, d => if c < n then scan n l (d + 1) else if c = n then (d :: (scan n l 0).1, (scan n l 0).2) else scan n l d
/-- The least one that is not below a number. -/
def least (l : List Nat) (n : Nat) : Nat := l.foldl (fun m c => if n ≤ c ∧ c < m then c else m) 1114112
/-- All passes. -/
def deltas (l : List Nat) : Nat → Nat → Nat → Nat → List Nat
  | 0, _, _, _ => []
  | f + 1, n, delta, h =>
    if h < l.length then
      (scan (least l n) l (delta + (least l n - n) * (h + 1))).1 ++ deltas l f (least l n + 1) ((scan (least l n) l (delta + (least l n - n) * (h + 1))).2 + 1) (h + (scan (least l n) l (delta + (least l n - n) * (h + 1))).1.length)
    else []

theorem least_go (n : Nat) : ∀ (l : List Nat) (m : Nat), let r := l.foldl (fun m c => if n ≤ c ∧ c < m then c else m) m
    (r = m ∨ (r ∈ l ∧ n ≤ r)) ∧ r ≤ m ∧ ∀ c ∈ l, n ≤ c → r ≤ c := by
  intro l
  induction l with
  | nil => intro m; exact ⟨.inl rfl, Nat.le_refl _, fun c hc => by cases hc⟩
  | cons c l ih =>
    intro m
    simp only [List.foldl_cons]
    by_cases h : n ≤ c ∧ c < m
    · rw [if_pos h]
      obtain ⟨h1, h2, h3⟩ := ih c
      refine ⟨.inr ?_, by omega, ?_⟩
      · rcases h1 with h1 | h1
        · rw [h1]; exact ⟨List.mem_cons_self .., h.1⟩
        · exact ⟨List.mem_cons_of_mem _ h1.1, h1.2⟩
      · intro x hx hn
        rcases List.mem_cons.1 hx with rfl | hx
        · exact h2
        · exact h3 x hx hn
    · rw [if_neg h]
      obtain ⟨h1, h2, h3⟩ := ih m
      refine ⟨?_, h2, ?_⟩
      · rcases h1 with h1 | h1
        · exact .inl h1
        · exact .inr ⟨List.mem_cons_of_mem _ h1.1, h1.2⟩
      · intro x hx hn
        rcases List.mem_cons.1 hx with rfl | hx
        · omega
        · exact h3 x hx hn
theorem least_spec {l : List Nat} {n : Nat} (hs : ∀ c ∈ l, c < 1114112) (h : ∃ c ∈ l, n ≤ c) : least l n ∈ l ∧ n ≤ least l n ∧ ∀ c ∈ l, n ≤ c → least l n ≤ c := by
  obtain ⟨h1, h2, h3⟩ := least_go n l 1114112
  obtain ⟨c, hc, hn⟩ := h
  have h4 : least l n ≤ c := h3 c hc hn
  have h5 := hs c hc
  rcases h1 with h1 | h1
  · exfalso
    have : least l n = 1114112 := h1
    omega
  · exact ⟨h1.1, h1.2, h3⟩

/-- The machine follows a pass. -/
theorem scan_run (n : Nat) : ∀ (l2 l1 : List Nat) (d n0 i0 : Nat), n0 ≤ n →
    i0 + d = (n - n0) * ((l1.filter (· ≤ n) ++ l2.filter (· < n)).length + 1) + (l1.filter (· ≤ n)).length →
    (runD (scan n l2 d).1 (l1.filter (· ≤ n) ++ l2.filter (· < n)) n0 i0).1 = (l1 ++ l2).filter (· ≤ n) ∧
    (runD (scan n l2 d).1 (l1.filter (· ≤ n) ++ l2.filter (· < n)) n0 i0).2.1 ≤ n ∧
    (runD (scan n l2 d).1 (l1.filter (· ≤ n) ++ l2.filter (· < n)) n0 i0).2.2 + (scan n l2 d).2 =
      (n - (runD (scan n l2 d).1 (l1.filter (· ≤ n) ++ l2.filter (· < n)) n0 i0).2.1) * (((l1 ++ l2).filter (· ≤ n)).length + 1) + ((l1 ++ l2).filter (· ≤ n)).length := by
  intro l2
  induction l2 with
  | nil =>
    intro l1 d n0 i0 hn h
    simp only [List.filter_nil, List.append_nil] at h ⊢
    exact ⟨rfl, hn, h⟩
  | cons c l2 ih =>
    intro l1 d n0 i0 hn h
    have happ : l1 ++ c :: l2 = (l1 ++ [c]) ++ l2 := by simp
    rw [happ]
    by_cases h1 : c < n
    · have e1 : (l1 ++ [c]).filter (· ≤ n) = l1.filter (· ≤ n) ++ [c] := by
        rw [List.filter_append]; congr 1; simp; omega
      have e2 : l1.filter (· ≤ n) ++ (c :: l2).filter (· < n) = (l1 ++ [c]).filter (· ≤ n) ++ l2.filter (· < n) := by
        rw [List.filter_cons_of_pos (by simpa using h1), e1]; simp
      have e3 : scan n (c :: l2) d = scan n l2 (d + 1) := by simp [scan, h1]
      rw [e2] at h ⊢
      rw [e3]
      refine ih (l1 ++ [c]) (d + 1) n0 i0 hn ?_
      rw [← Nat.add_assoc, h]
      have : ((l1 ++ [c]).filter (· ≤ n)).length = (l1.filter (· ≤ n)).length + 1 := by rw [e1]; simp
      omega
    · by_cases h2 : c = n
      · subst h2
        have e0 : (c :: l2).filter (· < c) = l2.filter (· < c) := List.filter_cons_of_neg (by simp)
        have e1 : (l1 ++ [c]).filter (· ≤ c) = l1.filter (· ≤ c) ++ [c] := by
          rw [List.filter_append]; congr 1; simp
        have e3 : scan c (c :: l2) d = (d :: (scan c l2 0).1, (scan c l2 0).2) := by simp [scan]
        rw [e0] at h ⊢
        rw [e3]
        obtain ⟨P, hP⟩ : ∃ P, l1.filter (· ≤ c) = P := ⟨_, rfl⟩
        rw [hP] at h e1 ⊢
        have hlen : P.length < (P ++ l2.filter (· < c)).length + 1 := by simp; omega
        have hdiv : (i0 + d) / ((P ++ l2.filter (· < c)).length + 1) = c - n0 := by
          rw [h, Nat.mul_comm, Nat.mul_add_div (by omega), Nat.div_eq_of_lt hlen, Nat.add_zero]
        have hmod : (i0 + d) % ((P ++ l2.filter (· < c)).length + 1) = P.length := by
          rw [h, Nat.mul_comm, Nat.mul_add_mod, Nat.mod_eq_of_lt hlen]
        have hcn : n0 + (c - n0) = c := by omega
        have hins : ins (P ++ l2.filter (· < c)) P.length c = (l1 ++ [c]).filter (· ≤ c) ++ l2.filter (· < c) := by
          unfold ins
          rw [List.take_left' rfl, List.drop_left' rfl, e1]
          simp
        show (runD (scan c l2 0).1 (ins _ ((i0 + d) % _) (n0 + (i0 + d) / _)) (n0 + (i0 + d) / _) ((i0 + d) % _ + 1)).1 = _ ∧ (runD (scan c l2 0).1 (ins _ ((i0 + d) % _) (n0 + (i0 + d) / _)) (n0 + (i0 + d) / _) ((i0 + d) % _ + 1)).2.1 ≤ _ ∧ (runD (scan c l2 0).1 (ins _ ((i0 + d) % _) (n0 + (i0 + d) / _)) (n0 + (i0 + d) / _) ((i0 + d) % _ + 1)).2.2 + (scan c l2 0).2 = (c - (runD (scan c l2 0).1 (ins _ ((i0 + d) % _) (n0 + (i0 + d) / _)) (n0 + (i0 + d) / _) ((i0 + d) % _ + 1)).2.1) * _ + _
        rw [hdiv, hmod, hcn, hins]
        refine ih (l1 ++ [c]) 0 c (P.length + 1) (Nat.le_refl _) ?_
        rw [e1]; simp
      · have e1 : (l1 ++ [c]).filter (· ≤ n) = l1.filter (· ≤ n) := by
          rw [List.filter_append, List.filter_cons_of_neg (by simp; omega)]; simp
        have e0 : (c :: l2).filter (· < n) = l2.filter (· < n) := List.filter_cons_of_neg (by simp; omega)
        have e3 : scan n (c :: l2) d = scan n l2 d := by simp [scan, h1, h2]
        rw [e0] at h ⊢
        rw [e3]
        have := ih (l1 ++ [c]) d n0 i0 hn
        rw [e1] at this
        exact this h
end Go.Proofs.YtfaieldafoeaiaaGreatDoor

/-
  Punycode's deltas there and back: a list's deltas put it together, and no others do.
-/
namespace Go.Proofs.YtfaieldafoeaiaaGreatDoor

theorem scan_length (n : Nat) : ∀ (l : List Nat) (d : Nat), (scan n l d).1.length = l.count n := by
  intro l
  induction l with
  | nil => intro d; rfl
  | cons c l ih =>
    intro d
    by_cases h1 : c < n
    · rw [show scan n (c :: l) d = scan n l (d + 1) by simp [scan, h1], ih, List.count_cons_of_ne (by omega)]
    · by_cases h2 : c = n
      · subst h2
        rw [show scan c (c :: l) d = (d :: (scan c l 0).1, (scan c l 0).2) by simp [scan], List.count_cons_self, List.length_cons, ih]
      · rw [show scan n (c :: l) d = scan n l d by simp [scan, h1, h2], ih, List.count_cons_of_ne h2]

theorem filter_all {l : List Nat} {n : Nat} (h : l.length ≤ (l.filter (· < n)).length) : l.filter (· < n) = l := by
  have h1 := List.length_filter_le (· < n) l
  exact (List.filter_sublist (l := l)).eq_of_length (Nat.le_antisymm h1 h)
theorem filter_ex {l : List Nat} {n : Nat} (h : (l.filter (· < n)).length < l.length) : ∃ c ∈ l, n ≤ c := by
  by_cases e : ∃ c ∈ l, n ≤ c
  · exact e
  · exfalso
    have : l.filter (· < n) = l := List.filter_eq_self.2 fun c hc => by
      simp only [decide_eq_true_eq]
      exact Nat.lt_of_not_le fun hn => e ⟨c, hc, hn⟩
    rw [this] at h
    omega

/-- A list's deltas put it together. -/
theorem deltas_run (l : List Nat) (hs : ∀ c ∈ l, c < 1114112) : ∀ (f n delta h n0 i0 : Nat), l.length - h ≤ f → h = (l.filter (· < n)).length → n0 ≤ n →
    i0 + delta = (n - n0) * (h + 1) → (runD (deltas l f n delta h) (l.filter (· < n)) n0 i0).1 = l := by
  intro f
  induction f with
  | zero =>
    intro n delta h n0 i0 hf hh hn hi
    exact filter_all (by omega)
  | succ f ih =>
    intro n delta h n0 i0 hf hh hn hi
    unfold deltas
    by_cases hlt : h < l.length
    · rw [if_pos hlt]
      obtain ⟨hm1, hm2, hm3⟩ := least_spec hs (filter_ex (n := n) (by omega))
      obtain ⟨m, hm⟩ : ∃ m, least l n = m := ⟨_, rfl⟩
      rw [hm] at hm1 hm2 hm3 ⊢
      have e1 : l.filter (· < n) = l.filter (· < m) := by
        refine List.filter_congr fun c hc => ?_
        have := hm3 c hc
        by_cases h1 : c < n
        · simp [h1]; omega
        · simp [h1]; exact this (by omega)
      have e2 : l.filter (· ≤ m) = l.filter (· < m + 1) := by
        refine List.filter_congr fun c _ => ?_
        simp [Nat.lt_succ_iff]
      obtain ⟨dd, hdd⟩ : ∃ dd, delta + (m - n) * (h + 1) = dd := ⟨_, rfl⟩
      rw [hdd]
      have hpend : i0 + dd = (m - n0) * (h + 1) := by
        rw [← hdd, ← Nat.add_assoc, hi, ← Nat.add_mul]
        congr 1
        omega
      have key := scan_run m l [] dd n0 i0 (by omega) (by
        simp only [List.filter_nil, List.nil_append, List.length_nil, Nat.add_zero]
        rw [← e1, ← hh]; exact hpend)
      simp only [List.filter_nil, List.nil_append] at key
      obtain ⟨k1, k2, k3⟩ := key
      have hlen := runD_length (scan m l dd).1 (l.filter (· < m)) n0 i0
      have hcnt := scan_length m l dd
      have hpos : 1 ≤ l.count m := List.count_pos_iff.2 hm1
      rw [runD_append, e1, k1, e2]
      rw [k1] at hlen
      rw [e2] at hlen k3
      have hh' : h = (l.filter (· < m)).length := by rw [← e1]; exact hh
      refine ih (m + 1) _ _ _ _ ?_ ?_ (by omega) ?_
      · omega
      · rw [hlen, hh']
      · rw [← Nat.add_assoc, k3, hlen, hh']
        generalize (runD (scan m l dd).1 (l.filter (· < m)) n0 i0).2.1 = n1 at k2 ⊢
        have : m + 1 - n1 = (m - n1) + 1 := by omega
        rw [this, Nat.add_mul, Nat.one_mul]
        omega
    · rw [if_neg hlt]
      exact filter_all (by omega)

/-- All that is there is not above n; what is behind the place is below it. -/
def Inv (cur : List Nat) (n i : Nat) : Prop := (∀ x ∈ cur, x ≤ n) ∧ ∀ x ∈ cur.drop i, x < n
theorem inv_pre {cur : List Nat} {n i : Nat} (h : Inv cur n i) (d : Nat) :
    (∀ x ∈ cur, x ≤ n + (i + d) / (cur.length + 1)) ∧ (∀ x ∈ cur.drop ((i + d) % (cur.length + 1)), x < n + (i + d) / (cur.length + 1)) ∧ (i + d) % (cur.length + 1) ≤ cur.length := by
  have hle : (i + d) % (cur.length + 1) ≤ cur.length := Nat.lt_succ_iff.1 (Nat.mod_lt _ (by omega))
  refine ⟨fun x hx => Nat.le_trans (h.1 x hx) (Nat.le_add_right _ _), fun x hx => ?_, hle⟩
  by_cases hz : (i + d) / (cur.length + 1) = 0
  · have hmod : (i + d) % (cur.length + 1) = i + d := by
      have := Nat.div_add_mod (i + d) (cur.length + 1)
      rw [hz] at this
      omega
    rw [hz]
    rw [hmod] at hx
    refine h.2 x ?_
    rw [← List.drop_drop] at hx
    exact List.mem_of_mem_drop hx
  · exact Nat.lt_of_le_of_lt (h.1 x (List.mem_of_mem_drop hx)) (Nat.lt_add_of_pos_right (Nat.pos_of_ne_zero hz))
theorem ins_drop {cur : List Nat} {p n : Nat} (hp : p ≤ cur.length) : (ins cur p n).drop (p + 1) = cur.drop p := by
  unfold ins
  rw [List.drop_append, List.drop_eq_nil_of_le (by simp; omega)]
  simp [Nat.min_eq_left hp]
theorem ins_at {cur : List Nat} {p n : Nat} (hp : p ≤ cur.length) : (ins cur p n)[p]? = some n := by
  unfold ins
  rw [List.getElem?_append_right (by simp; omega)]
  simp [Nat.min_eq_left hp]
theorem ins_back {cur : List Nat} {p n : Nat} (hp : p ≤ cur.length) : (ins cur p n).take p ++ (ins cur p n).drop (p + 1) = cur := by
  rw [ins_drop hp]
  unfold ins
  rw [List.take_append_of_le_length (by simp; omega), List.take_take]
  simp
theorem inv_step {cur : List Nat} {n i : Nat} (h : Inv cur n i) (d : Nat) :
    Inv (ins cur ((i + d) % (cur.length + 1)) (n + (i + d) / (cur.length + 1))) (n + (i + d) / (cur.length + 1)) ((i + d) % (cur.length + 1) + 1) := by
  obtain ⟨h1, h2, h3⟩ := inv_pre h d
  refine ⟨fun x hx => ?_, fun x hx => ?_⟩
  · rcases mem_ins.1 hx with rfl | hx
    · exact Nat.le_refl _
    · exact h1 x hx
  · rw [ins_drop h3] at hx
    exact h2 x hx
theorem inv_run (ds : List Nat) : ∀ (cur : List Nat) (n i : Nat), Inv cur n i → Inv (runD ds cur n i).1 (runD ds cur n i).2.1 (runD ds cur n i).2.2 := by
  induction ds with
  | nil => intro cur n i h; exact h
  | cons d ds ih => intro cur n i h; exact ih _ _ _ (inv_step h d)
theorem last_ins {c1 c2 : List Nat} {p1 p2 n1 n2 : Nat} (h : ins c1 p1 n1 = ins c2 p2 n2) (a1 : ∀ x ∈ c1, x ≤ n1) (a2 : ∀ x ∈ c2, x ≤ n2)
    (b1 : ∀ x ∈ c1.drop p1, x < n1) (b2 : ∀ x ∈ c2.drop p2, x < n2) (q1 : p1 ≤ c1.length) (q2 : p2 ≤ c2.length) : n1 = n2 ∧ p1 = p2 ∧ c1 = c2 := by
  have m1 : n1 ∈ ins c2 p2 n2 := h ▸ mem_ins.2 (.inl rfl)
  have m2 : n2 ∈ ins c1 p1 n1 := h.symm ▸ mem_ins.2 (.inl rfl)
  have l1 : n1 ≤ n2 := (mem_ins.1 m1).elim (fun e => Nat.le_of_eq e) (a2 n1)
  have l2 : n2 ≤ n1 := (mem_ins.1 m2).elim (fun e => Nat.le_of_eq e) (a1 n2)
  obtain rfl : n1 = n2 := Nat.le_antisymm l1 l2
  have far : ∀ {c c' : List Nat} {p p' : Nat}, ins c p n1 = ins c' p' n1 → (∀ x ∈ c.drop p, x < n1) → p ≤ c.length → p' ≤ c'.length → ¬ p < p' := by
    intro c c' p p' e b q q' hlt
    have h1 := ins_at (n := n1) q'
    rw [← e] at h1
    have h2 : n1 ∈ (ins c p n1).drop (p + 1) := by
      refine List.mem_iff_getElem?.2 ⟨p' - (p + 1), ?_⟩
      rw [List.getElem?_drop, show p + 1 + (p' - (p + 1)) = p' by omega]
      exact h1
    rw [ins_drop q] at h2
    exact absurd (b n1 h2) (Nat.lt_irrefl _)
  obtain rfl : p1 = p2 := by
    have := far h b1 q1 q2
    have := far h.symm b2 q2 q1
    omega
  refine ⟨rfl, rfl, ?_⟩
  rw [← ins_back (n := n1) q1, h, ins_back q2]
/-- No other deltas put a list together. -/
theorem runD_inj {cur : List Nat} {n i : Nat} (hi : Inv cur n i) : ∀ (ds es : List Nat), (runD ds cur n i).1 = (runD es cur n i).1 → ds = es := by
  intro ds
  induction hk : ds.length generalizing ds with
  | zero =>
    intro es h
    have := congrArg List.length h
    rw [runD_length, runD_length, hk] at this
    rw [List.eq_nil_of_length_eq_zero hk, List.eq_nil_of_length_eq_zero (l := es) (by omega)]
  | succ k ih0 =>
    rcases List.eq_nil_or_concat ds with rfl | ⟨ds, d, rfl⟩
    · simp at hk
    rw [List.concat_eq_append] at hk ⊢
    have ih := ih0 ds (by simpa using hk)
    intro es h
    have hl := congrArg List.length h
    rw [runD_length, runD_length] at hl
    rcases List.eq_nil_or_concat es with rfl | ⟨es', e, rfl⟩
    · simp at hl
    · rw [List.concat_eq_append] at h hl ⊢
      rw [runD_append, runD_append] at h
      have i1 := inv_run ds cur n i hi
      have i2 := inv_run es' cur n i hi
      obtain ⟨a1, b1, q1⟩ := inv_pre i1 d
      obtain ⟨a2, b2, q2⟩ := inv_pre i2 e
      obtain ⟨hn, hp, hc⟩ := last_ins h a1 a2 b1 b2 q1 q2
      obtain rfl := ih es' hc
      have hq : ((runD ds cur n i).2.2 + d) / ((runD ds cur n i).1.length + 1) = ((runD ds cur n i).2.2 + e) / ((runD ds cur n i).1.length + 1) := by omega
      have t1 := Nat.div_add_mod ((runD ds cur n i).2.2 + d) ((runD ds cur n i).1.length + 1)
      have t2 := Nat.div_add_mod ((runD ds cur n i).2.2 + e) ((runD ds cur n i).1.length + 1)
      rw [hq, hp] at t1
      have : d = e := by omega
      rw [this]
end Go.Proofs.YtfaieldafoeaiaaGreatDoor

/-
  Punycode as texts: Encode and Decode as plain functions, there and back.
-/
namespace Go.Proofs.YtfaieldafoeaiaaGreatDoor

/-- Deltas told by digits. -/
def tells (basic : Nat) : List Nat → Nat → Nat → List UInt8
  | [], _, _ => []
  | d :: ds, bias, h => tellK d bias 36 ++ tells basic ds (adapt d (h + 1) (h == basic)) (h + 1)
/-- A scalar. -/
def sc (n : Nat) : Bool := decide (n ≤ 1114111) && (decide (n < 55296) || decide (57343 < n))
/-- What a text of digits puts into a list. -/
def decT : Nat → List UInt8 → List Nat → Nat → Nat → Nat → Option (List Nat)
  | _, [], cur, _, _, _ => some cur
  | 0, _ :: _, _, _, _, _ => none
  | f + 1, c :: s, cur, n, i, bias =>
    match par (c :: s) bias 36 1 i with
    | none => none
    | some (j, r) =>
      if sc (n + j / (cur.length + 1)) then
        decT f r (ins cur (j % (cur.length + 1)) (n + j / (cur.length + 1))) (n + j / (cur.length + 1)) (j % (cur.length + 1) + 1) (adapt (j - i) (cur.length + 1) (i == 0))
      else none
def basicOf (l : List Nat) : List Nat := l.filter (· < 128)
/-- Encode. -/
def penc (l : List Nat) : List UInt8 :=
  (basicOf l).map UInt8.ofNat ++ (if (basicOf l).length = 0 then [] else [45]) ++ tells (basicOf l).length (deltas l l.length 128 0 (basicOf l).length) 72 (basicOf l).length
/-- The place of the last hyphen; -1: there is none. -/
def hyph (s : List UInt8) : Int := (s.length : Int) - 1 - (s.reverse.findIdx (· == 45) : Nat)
/-- Decode. -/
def pdec (s : List UInt8) : Option (List Nat) :=
  if s.any (fun b => decide (128 ≤ b.toNat)) then none
  else if 0 < hyph s then decT s.length (s.drop ((hyph s).toNat + 1)) ((s.take (hyph s).toNat).map UInt8.toNat) 128 0 72
  else decT s.length s [] 128 0 72
/-- Letters behind the last hyphen made small. -/
def small (s : List UInt8) : List UInt8 := s.take (hyph s + 1).toNat ++ (s.drop (hyph s + 1).toNat).map lower

theorem tellK_ne (bias : Nat) (q k : Nat) : tellK q bias k ≠ [] := by
  by_cases h : q < thr k bias
  · rw [tellK_small h]; simp
  · rw [tellK_more h]; simp
theorem tellK_bytes (bias : Nat) : ∀ (q k : Nat), ∀ b ∈ tellK q bias k, b.toNat < 128 ∧ b ≠ 45 := by
  intro q
  induction q using Nat.strongRecOn with
  | _ q ih =>
    intro k b hb
    have ht := thr_pos k bias
    by_cases h : q < thr k bias
    · rw [tellK_small h] at hb
      simp only [List.mem_singleton] at hb
      subst hb
      exact (dig_val ⟨q, by omega⟩).2
    · rw [tellK_more h] at hb
      have hm : (q - thr k bias) % (36 - thr k bias) < 36 - thr k bias := Nat.mod_lt _ (by omega)
      rcases List.mem_cons.1 hb with rfl | hb
      · exact (dig_val ⟨_, by omega⟩).2
      · exact ih _ (by
          have h1 : (q - thr k bias) / (36 - thr k bias) ≤ q - thr k bias := Nat.div_le_self _ _
          omega) _ b hb
theorem tells_bytes (basic : Nat) (ds : List Nat) : ∀ (bias h : Nat), ∀ b ∈ tells basic ds bias h, b.toNat < 128 ∧ b ≠ 45 := by
  induction ds with
  | nil => intro bias h b hb; simp [tells] at hb
  | cons d ds ih =>
    intro bias h b hb
    rcases List.mem_append.1 hb with hb | hb
    · exact tellK_bytes _ _ _ b hb
    · exact ih _ _ b hb
theorem dtells_length (basic : Nat) (ds : List Nat) : ∀ (bias h : Nat), ds.length ≤ (tells basic ds bias h).length := by
  induction ds with
  | nil => intro bias h; simp [tells]
  | cons d ds ih =>
    intro bias h
    have h1 := ih (adapt d (h + 1) (h == basic)) (h + 1)
    have h2 := List.length_pos_iff.2 (tellK_ne bias d 36)
    show _ ≤ (tellK d bias 36 ++ _).length
    rw [List.length_append, List.length_cons]
    omega

/-- The first one, or not. -/
def Flag (basic len i : Nat) : Prop := (len = basic ∧ i = 0) ∨ (basic < len ∧ 1 ≤ i)
theorem Flag.eq {basic len i : Nat} (h : Flag basic len i) : (len == basic) = (i == 0) := by
  rcases h with ⟨rfl, rfl⟩ | ⟨h1, h2⟩
  · simp
  · rw [beq_eq_false_iff_ne.2 (by omega), beq_eq_false_iff_ne.2 (by omega)]
theorem Flag.next {basic len i p : Nat} (h : Flag basic len i) : Flag basic (len + 1) (p + 1) := by
  rcases h with ⟨rfl, rfl⟩ | ⟨h1, h2⟩
  · exact .inr ⟨by omega, by omega⟩
  · exact .inr ⟨by omega, by omega⟩

/-- Deltas that are told are read. -/
theorem decT_tells (basic : Nat) (ds : List Nat) : ∀ (f : Nat) (cur : List Nat) (n i bias : Nat), (tells basic ds bias cur.length).length ≤ f → Flag basic cur.length i →
    (∀ x ∈ (runD ds cur n i).1, sc x = true) → (runD ds cur n i).1.length ≤ 250 → decT f (tells basic ds bias cur.length) cur n i bias = some (runD ds cur n i).1 := by
  induction ds with
  | nil => intro f cur n i bias hf hfl hs hl; cases f <;> rfl
  | cons d ds ih =>
    intro f cur n i bias hf hfl hs hl
    obtain ⟨f, rfl⟩ : ∃ g, f = g + 1 := by
      have h2 := List.length_pos_iff.2 (tellK_ne bias d 36)
      have : (tells basic (d :: ds) bias cur.length).length = (tellK d bias 36).length + (tells basic ds (adapt d (cur.length + 1) (cur.length == basic)) (cur.length + 1)).length := List.length_append
      exact ⟨f - 1, by omega⟩
    have hlen : cur.length + (d :: ds).length ≤ 250 := by rw [← runD_length (d :: ds) cur n i]; exact hl
    rw [List.length_cons] at hlen
    have hin : n + (i + d) / (cur.length + 1) ∈ (runD (d :: ds) cur n i).1 := runD_mem ds _ _ _ _ (mem_ins.2 (.inl rfl))
    have hsc := hs _ hin
    have hle : (i + d) / (cur.length + 1) ≤ 1114111 := by
      simp only [sc, Bool.and_eq_true, decide_eq_true_eq] at hsc
      exact Nat.le_trans (Nat.le_add_left _ _) hsc.1
    have hb1 : i + d < 1114112 * (cur.length + 1) := (Nat.div_lt_iff_lt_mul (by omega)).1 (by omega)
    have hb : i + d < 1114112 * 251 := Nat.lt_of_lt_of_le hb1 (Nat.mul_le_mul_left _ (by omega))
    have hp := par_tell bias (tells basic ds (adapt d (cur.length + 1) (cur.length == basic)) (cur.length + 1)) d 36 1 i (by omega) (by omega)
    rw [Nat.mul_one] at hp
    have htx : tells basic (d :: ds) bias cur.length = tellK d bias 36 ++ tells basic ds (adapt d (cur.length + 1) (cur.length == basic)) (cur.length + 1) := rfl
    rw [← htx] at hp
    cases ht : tells basic (d :: ds) bias cur.length with
    | nil => rw [htx] at ht; exact absurd (List.append_eq_nil_iff.1 ht).1 (tellK_ne _ _ _)
    | cons c s =>
      rw [ht] at hp
      unfold decT
      rw [hp]
      simp only
      rw [if_pos hsc, show i + d - i = d by omega, ← hfl.eq]
      have hl1 := ins_length cur ((i + d) % (cur.length + 1)) (n + (i + d) / (cur.length + 1))
      have := ih f (ins cur ((i + d) % (cur.length + 1)) (n + (i + d) / (cur.length + 1))) (n + (i + d) / (cur.length + 1)) ((i + d) % (cur.length + 1) + 1) (adapt d (cur.length + 1) (cur.length == basic))
      rw [hl1] at this
      refine this ?_ hfl.next hs hl
      have h2 := List.length_pos_iff.2 (tellK_ne bias d 36)
      rw [htx, List.length_append] at hf
      omega

/-- What is read is how it is told. -/
theorem tells_decT (basic : Nat) : ∀ (f : Nat) (s : List UInt8) (cur : List Nat) (n i bias : Nat) (l : List Nat), decT f s cur n i bias = some l → Flag basic cur.length i →
    (∀ x ∈ cur, sc x = true) → ∃ ds, s.map lower = tells basic ds bias cur.length ∧ (runD ds cur n i).1 = l ∧ ∀ x ∈ l, sc x = true := by
  intro f
  induction f with
  | zero =>
    intro s cur n i bias l h hfl hs
    cases s with
    | nil =>
      simp only [decT, Option.some.injEq] at h
      subst h
      exact ⟨[], rfl, rfl, hs⟩
    | cons c s => simp [decT] at h
  | succ f ih =>
    intro s cur n i bias l h hfl hs
    cases s with
    | nil =>
      simp only [decT, Option.some.injEq] at h
      subst h
      exact ⟨[], rfl, rfl, hs⟩
    | cons c s =>
      unfold decT at h
      split at h
      · cases h
      · rename_i j r hp
        split at h
        · rename_i hsc
          obtain ⟨q, pre, hj, he, hne, hpre, _⟩ := tell_par bias _ _ _ _ _ _ hp
          rw [Nat.mul_one] at hj
          subst hj
          rw [show i + q - i = q by omega, ← hfl.eq] at h
          have hl1 := ins_length cur ((i + q) % (cur.length + 1)) (n + (i + q) / (cur.length + 1))
          obtain ⟨ds, h1, h2, h3⟩ := ih _ _ _ _ _ _ h (by rw [hl1]; exact hfl.next) (fun x hx => by
            rcases mem_ins.1 hx with rfl | hx
            · exact hsc
            · exact hs x hx)
          refine ⟨q :: ds, ?_, h2, h3⟩
          rw [he, List.map_append, hpre, h1, hl1]
          rfl
        · cases h

theorem hyph_none {s : List UInt8} (h : (45 : UInt8) ∉ s) : hyph s = -1 := by
  unfold hyph
  have : s.reverse.findIdx (· == 45) = s.reverse.length := by
    rw [List.findIdx_eq_length]
    intro x hx
    rw [beq_eq_false_iff_ne]
    rintro rfl
    exact h (List.mem_reverse.1 hx)
  rw [this, List.length_reverse]
  omega
theorem hyph_at {a b : List UInt8} (h : (45 : UInt8) ∉ b) : hyph (a ++ 45 :: b) = a.length := by
  unfold hyph
  have e : (a ++ 45 :: b).reverse = b.reverse ++ 45 :: a.reverse := by simp
  have : (b.reverse ++ 45 :: a.reverse).findIdx (· == 45) = b.length := by
    rw [List.findIdx_append]
    have : b.reverse.findIdx (· == 45) = b.reverse.length := by
      rw [List.findIdx_eq_length]
      intro x hx
      rw [beq_eq_false_iff_ne]
      rintro rfl
      exact h (List.mem_reverse.1 hx)
    rw [this, if_neg (by omega)]
    simp [List.findIdx_cons]
  rw [e, this]
  simp
  omega
theorem split_last {s : List UInt8} (h : (45 : UInt8) ∈ s) : ∃ a b, s = a ++ 45 :: b ∧ (45 : UInt8) ∉ b := by
  induction s with
  | nil => cases h
  | cons c s ih =>
    by_cases hs : (45 : UInt8) ∈ s
    · obtain ⟨a, b, rfl, hb⟩ := ih hs
      exact ⟨c :: a, b, rfl, hb⟩
    · rcases List.mem_cons.1 h with rfl | h
      · exact ⟨[], s, rfl, hs⟩
      · exact absurd h hs

theorem sc_lt {n : Nat} (h : sc n = true) : n < 1114112 := by
  simp only [sc, Bool.and_eq_true, decide_eq_true_eq] at h
  omega
theorem sc_small {n : Nat} (h : n < 128) : sc n = true := by
  simp only [sc, Bool.and_eq_true, Bool.or_eq_true, decide_eq_true_eq]
  omega
theorem run_deltas {l : List Nat} (hs : ∀ x ∈ l, sc x = true) : (runD (deltas l l.length 128 0 (basicOf l).length) (basicOf l) 128 0).1 = l :=
  deltas_run l (fun c hc => sc_lt (hs c hc)) l.length 128 0 (basicOf l).length 128 0 (by omega) rfl (Nat.le_refl _) (by simp)
theorem ofNat_back {l : List Nat} (h : ∀ x ∈ l, x < 128) : (l.map UInt8.ofNat).map UInt8.toNat = l := by
  rw [List.map_map]
  refine (List.map_congr_left (g := id) fun x hx => ?_).trans (List.map_id _)
  have := h x hx
  show (UInt8.ofNat x).toNat = x
  simp
  omega
theorem basicOf_small (l : List Nat) : ∀ x ∈ basicOf l, x < 128 := fun x hx => by simpa using (List.mem_filter.1 hx).2
theorem penc_bytes (l : List Nat) : ∀ b ∈ penc l, b.toNat < 128 := by
  intro b hb
  unfold penc at hb
  rcases List.mem_append.1 hb with hb | hb
  · rcases List.mem_append.1 hb with hb | hb
    · obtain ⟨x, hx, rfl⟩ := List.mem_map.1 hb
      have := basicOf_small l x hx
      simp; omega
    · split at hb
      · simp at hb
      · simp only [List.mem_singleton] at hb; subst hb; decide
  · exact (tells_bytes _ _ _ _ b hb).1

/-- Scalars are told there and back. -/
theorem pdec_penc {l : List Nat} (hs : ∀ x ∈ l, sc x = true) (hl : l.length ≤ 250) : pdec (penc l) = some l := by
  have hrun := run_deltas hs
  have hany : (penc l).any (fun b => decide (128 ≤ b.toNat)) = false := by
    rw [List.any_eq_false]
    intro b hb
    have := penc_bytes l b hb
    simp; omega
  unfold pdec
  rw [hany]
  simp only [Bool.false_eq_true, if_false]
  obtain ⟨T, hT⟩ : ∃ T, tells (basicOf l).length (deltas l l.length 128 0 (basicOf l).length) 72 (basicOf l).length = T := ⟨_, rfl⟩
  have hT45 : (45 : UInt8) ∉ T := by
    intro h45
    rw [← hT] at h45
    exact (tells_bytes _ _ _ _ _ h45).2 rfl
  have key : ∀ f, T.length ≤ f → decT f T (basicOf l) 128 0 72 = some l := by
    intro f hf
    have := decT_tells (basicOf l).length (deltas l l.length 128 0 (basicOf l).length) f (basicOf l) 128 0 72 (by rw [hT]; exact hf) (.inl ⟨rfl, rfl⟩) (by rw [hrun]; exact hs) (by rw [hrun]; exact hl)
    rw [hT, hrun] at this
    exact this
  by_cases hb : (basicOf l).length = 0
  · have e : penc l = T := by
      unfold penc
      rw [hT, if_pos hb, List.eq_nil_of_length_eq_zero hb]
      rfl
    rw [e, hyph_none hT45, if_neg (by omega)]
    have := key T.length (Nat.le_refl _)
    rw [List.eq_nil_of_length_eq_zero hb] at this
    exact this
  · have e : penc l = (basicOf l).map UInt8.ofNat ++ 45 :: T := by
      unfold penc
      rw [hT, if_neg hb]
      simp
    rw [e, hyph_at hT45, if_pos (by rw [List.length_map]; omega)]
    have e1 : (((basicOf l).map UInt8.ofNat).length : Int).toNat = ((basicOf l).map UInt8.ofNat).length := by omega
    rw [e1, List.take_left' rfl, ofNat_back (basicOf_small l)]
    have e2 : ((basicOf l).map UInt8.ofNat ++ 45 :: T).drop (((basicOf l).map UInt8.ofNat).length + 1) = T := by
      rw [List.drop_append, List.drop_eq_nil_of_le (by omega)]
      simp
    rw [e2]
    exact key _ (by simp; omega)

theorem lower_pre (s : List UInt8) : (s.map lower).length = s.length := by simp
theorem digits_45 {bias k w i j : Nat} {s r : List UInt8} (h : par (45 :: s) bias k w i = some (j, r)) : False := by
  unfold par at h
  rw [if_pos (by decide)] at h
  cases h
/-- A text that is decoded is encoded to what it was, but for capital letters. -/
theorem penc_pdec {s : List UInt8} {l : List Nat} (h : pdec s = some l) : penc l = small s ∧ ∀ x ∈ l, sc x = true := by
  have main : ∀ (f : Nat) (t : List UInt8) (cur : List Nat), (∀ x ∈ cur, x < 128) → decT f t cur 128 0 72 = some l →
      basicOf l = cur ∧ tells cur.length (deltas l l.length 128 0 cur.length) 72 cur.length = t.map lower ∧ ∀ x ∈ l, sc x = true := by
    intro f t cur hcur hd
    obtain ⟨ds, h1, h2, h3⟩ := tells_decT cur.length f t cur 128 0 72 l hd (.inl ⟨rfl, rfl⟩) (fun x hx => sc_small (hcur x hx))
    have hf : basicOf l = cur := by
      have := runD_filter ds cur 128 0 128 (Nat.le_refl _)
      rw [h2] at this
      rw [basicOf, this]
      exact List.filter_eq_self.2 fun x hx => by simpa using hcur x hx
    have hr := run_deltas h3
    rw [hf] at hr
    have hi : Inv cur 128 0 := ⟨fun x hx => Nat.le_of_lt (hcur x hx), fun x hx => hcur x (List.mem_of_mem_drop hx)⟩
    have := runD_inj hi _ _ (hr.trans h2.symm)
    exact ⟨hf, by rw [this, h1], h3⟩
  unfold pdec at h
  split at h
  · cases h
  · rename_i hany
    have hsm : ∀ b ∈ s, b.toNat < 128 := by
      intro b hb
      have := List.any_eq_false.1 (Bool.eq_false_iff.2 hany) b hb
      simp at this; omega
    by_cases h45 : (45 : UInt8) ∈ s
    · obtain ⟨a, b, rfl, hb⟩ := split_last h45
      rw [hyph_at hb] at h
      split at h
      · rename_i ha
        have e1 : ((a.length : Int)).toNat = a.length := by omega
        have e2 : (a ++ 45 :: b).drop (a.length + 1) = b := by
          rw [List.drop_append, List.drop_eq_nil_of_le (by omega)]
          simp
        rw [e1, List.take_left' rfl, e2] at h
        obtain ⟨g1, g2, g3⟩ := main _ _ _ (fun x hx => by
          obtain ⟨y, hy, rfl⟩ := List.mem_map.1 hx
          exact hsm y (List.mem_append_left _ hy)) h
        refine ⟨?_, g3⟩
        have e3 : ((a.length : Int) + 1).toNat = a.length + 1 := by omega
        unfold penc small
        rw [g1, g2, hyph_at hb, e3, if_neg (by rw [List.length_map]; omega), e2, List.map_map]
        have e4 : a.map (UInt8.ofNat ∘ UInt8.toNat) = a := (List.map_congr_left (g := id) fun x _ => by simp).trans (List.map_id _)
        have e5 : (a ++ 45 :: b).take (a.length + 1) = a ++ [45] := by
          rw [List.take_append, List.take_of_length_le (by omega)]
          simp
        rw [e4, e5]
      · rename_i ha
        exfalso
        obtain rfl : a = [] := List.eq_nil_of_length_eq_zero (by omega)
        simp only [List.nil_append, List.length_cons] at h
        unfold decT at h
        split at h
        · cases h
        · rename_i hp
          exact digits_45 hp
    · rw [hyph_none h45, if_neg (by omega)] at h
      obtain ⟨g1, g2, g3⟩ := main _ _ _ (fun x hx => by cases hx) h
      refine ⟨?_, g3⟩
      unfold penc small
      rw [g1, g2, hyph_none h45]
      simp
/-- Code points below 128 alone are told by themselves, and a hyphen. -/
theorem penc_plain {l : List Nat} (h : ∀ x ∈ l, x < 128) : penc l = l.map UInt8.ofNat ++ (if l.length = 0 then [] else [45]) := by
  have hb : basicOf l = l := List.filter_eq_self.2 fun x hx => by simpa using h x hx
  unfold penc
  rw [hb]
  have : deltas l l.length 128 0 l.length = [] := by
    cases hl : l.length with
    | zero => rfl
    | succ k => unfold deltas; rw [if_neg (by omega)]
  rw [this]
  simp [tells]
end Go.Proofs.YtfaieldafoeaiaaGreatDoor

/-
  The document's small functions of layer 4 (Threshold, digit, value, Adapt, tell, least, hyphen, weighted), by their contracts.
-/
namespace Go.Proofs.YtfaieldafoeaiaaGreatDoor
open Go.RowKit

theorem thr_any (k b : Nat) (x y : Int) (w : World) (hx : x = (k : Int)) (hy : y = (b : Int)) (_ : k ≤ 1125899906842624) (hb : b ≤ 1125899906842624) :
    Calls Tryz.prog 84 #[.int .i64 x, .int .i64 y] w fun e w' => e = .returned (.int .i64 (thr k b : Int)) ∧ w = w' := by
  subst hx; subst hy
  go_enter Tryz.func84, Tryz.ntmps84
  go_wp2
  all_goals
    go_ret
    refine ⟨ret_int ?_, rfl⟩
    unfold thr
    repeat' split
    all_goals omega

theorem digit_any (n : Nat) (x : Int) (w : World) (hx : x = (n : Int)) (hn : n < 36) :
    Calls Tryz.prog 85 #[.int .i64 x] w fun e w' => e = .returned (.int .u8 ((dig n).toNat : Int)) ∧ w = w' := by
  subst hx
  go_enter Tryz.func85, Tryz.ntmps85
  go_wp2
  all_goals
    go_ret
    refine ⟨ret_int ?_, rfl⟩
    unfold dig
    first
    | (rw [if_pos (by omega), ofNat_toNat (97 + n) (by omega)]; omega)
    | (rw [if_neg (by omega), ofNat_toNat (22 + n) (by omega)]; omega)

theorem value4_any (c : UInt8) (w : World) :
    Calls Tryz.prog 100 #[.int .u8 (c.toNat : Int)] w fun e w' => e = .returned (.int .i64 (dval c.toNat)) ∧ w = w' := by
  have hu := c.toNat_lt
  go_enter Tryz.func100, Tryz.ntmps100
  go_wp2
  all_goals
    go_ret
    refine ⟨ret_int ?_, rfl⟩
    unfold dval
    repeat' split
    all_goals omega

theorem adaptLoop_le : ∀ (d k : Nat), adaptLoop d k ≤ d + k + 36 := by
  intro d
  induction d using Nat.strongRecOn with
  | _ d ih =>
    intro k
    rw [adaptLoop]
    split
    · have := ih (d / 35) (by omega) (k + 36)
      omega
    · have : 36 * d / (d + 38) ≤ 36 := by
        apply Nat.div_le_of_le_mul
        rw [Nat.mul_comm]
        exact Nat.mul_le_mul_right _ (by omega)
      omega
theorem adapt_le (delta many : Nat) (once : Bool) : adapt delta many once ≤ delta + 36 := by
  unfold adapt
  have h1 := adaptLoop_le ((if once then delta / 700 else delta / 2) + (if once then delta / 700 else delta / 2) / many) 0
  have h2 : (if once then delta / 700 else delta / 2) ≤ delta / 2 := by split <;> omega
  have h3 : (if once then delta / 700 else delta / 2) / many ≤ (if once then delta / 700 else delta / 2) := Nat.div_le_self _ _
  omega

theorem adaptLoop_more {d k : Nat} (h : 455 < d) : adaptLoop d k = adaptLoop (d / 35) (k + 36) := by rw [adaptLoop, dif_pos h]
theorem adaptLoop_end {d k : Nat} (h : ¬ 455 < d) : adaptLoop d k = k + 36 * d / (d + 38) := by rw [adaptLoop, dif_neg h]

set_option maxHeartbeats 400000 in
theorem adapt_any (delta many : Nat) (once : Bool) (x y : Int) (w : World) (hx : x = (delta : Int)) (hy : y = (many : Int)) (hd : delta ≤ 2199023255552) (hm0 : 1 ≤ many) (hm1 : many ≤ 2199023255552) :
    Calls Tryz.prog 60 #[.int .i64 x, .int .i64 y, .bool once] w fun e w' => e = .returned (.int .i64 (adapt delta many once : Int)) ∧ w = w' := by
  subst hx; subst hy
  obtain ⟨d0, hd0⟩ : ∃ d0, (if once then delta / 700 else delta / 2) = d0 := ⟨_, rfl⟩
  have hd1 : d0 ≤ delta := by rw [← hd0]; split <;> omega
  obtain ⟨q, hqe⟩ : ∃ q, d0 / many = q := ⟨_, rfl⟩
  have hq : q ≤ d0 := by rw [← hqe]; exact Nat.div_le_self _ _
  have HA : Hid (adaptLoop (d0 + q) 0 = adapt delta many once) := by
    show adaptLoop (d0 + q) 0 = adapt delta many once
    unfold adapt; rw [hd0, hqe]
  have hdiv : (d0 : Int) / (many : Int) = (q : Int) := by
    rw [← hqe]; exact (Int.natCast_ediv _ _).symm
  clear hqe
  have hh : (if once then (delta : Int) / 700 else (delta : Int) / 2) = (d0 : Int) := by
    rw [← hd0]; split <;> omega
  clear hd0
  cases once
  all_goals
    simp only [if_true, if_false, Bool.false_eq_true] at hh
    go_enter Tryz.func60, Tryz.ntmps60
    go_wp2
    go_loopw [7, 8] (fun a b wr => ∃ d k : Nat, a = .int .i64 d ∧ b = .int .i64 k ∧ wr = w ∧ adaptLoop d k = adapt delta many _ ∧ d + k ≤ 4398046511104) (fun a _ _ => (intOf a).toNat)
    case atStart => exact ⟨d0 + q, 0, by go_num, rfl, rfl, HA.out, by omega⟩
    case round =>
      obtain ⟨d, k, rfl, rfl, rfl, hl, hb⟩ := hrel
      have HL := Lib.hid hl
      clear hl hdiv hh
      by_cases h : 455 < d
      · have HM := Lib.hid (adaptLoop_more (k := k) h)
        go_wp2
        go_roundw
        case rel => exact ⟨d / 35, k + 36, by go_num, by go_num, by first | rfl | trivial, by rw [← HM.out]; exact HL.out, by omega⟩
        case measure => simp [intOf]; omega
      · have HM := Lib.hid (adaptLoop_end (k := k) h)
        obtain ⟨r, hr⟩ : ∃ r, 36 * d / (d + 38) = r := ⟨_, rfl⟩
        have hr0 : r ≤ 36 := by
          rw [← hr]
          apply Nat.div_le_of_le_mul
          rw [Nat.mul_comm]
          exact Nat.mul_le_mul_right _ (by omega)
        have hri : (36 * (d : Int)) / ((d : Int) + 38) = (r : Int) := by
          rw [← hr]
          simp
        rw [hr] at HM
        clear hr
        go_wp2
        go_ret
        exact ⟨ret_int (by rw [← HL.out, HM.out]; omega), rfl⟩
end Go.Proofs.YtfaieldafoeaiaaGreatDoor

/-
  'append' of runes onto a row of the call's own, from any runes.
-/
namespace Go.Proofs.YtfaieldafoeaiaaGreatDoor
open Go.RowKit

/-- A slice of runes that lies above a base: its own row. -/
def RowN (B : Nat) (w : World) (v : Value) (l : List Int) : Prop := w.ownsRow B 21 1 v l.length (l.map (Value.int .i32))
theorem RowN.below {B : Nat} {w w' : World} {v : Value} {l : List Int} (h : RowN B w v l) (hb : Below w.heap.size w w') : RowN B w' v l := own_below h hb
theorem rowN_new (w : World) : RowN w.heap.size (w.alloc (.cells #[] 21)) (.slice (some ⟨w.heap.size, 0, none⟩) 0 0) [] := by
  refine ⟨rfl, .inr ⟨w.heap.size, 0, #[], rfl, Nat.le_refl _, ?_, Nat.le_refl _, by simp [maxLen], rfl, rfl⟩⟩
  exact heap_alloc_new w _
/-- 'append(s, x...)', s a row of the call's own, x any runes. -/
theorem append_from {ops : Array Oper} {rest : List Oper} {o : Oper} {a : Act} {Q : Exit → Act → World → Prop} {w : World} (hgd : o.guard = none) (s x : Operand)
    (ho : o.op = .call { callee := .builtin .append, args := #[s, x], argTypes := #[22, 22] })
    (B : Nat) (v : Value) (l : List Int) (X : Option Addr) (m c : Nat) (lx : List Int) (hs : a.eval s = v) (hx : a.eval x = .slice X m c) (h1 : RowN B w v l) (h2 : Runes w X lx) (hm : m = lx.length) (hc : X = none → c = 0)
    (hl : l.length + lx.length ≤ 4000) (hB : B ≤ w.heap.size)
    (h : ∀ v' w', RowN B w' v' (l ++ lx) → Below B w w' → wpList Tryz.prog ops Q rest (a.put o.dst v') w') : wpList Tryz.prog ops Q (o :: rest) a w := by
  obtain ⟨i0, hi, hz0, hz1, hz2⟩ := info_parts Tryz.infoR
  subst hm
  cases X with
  | none =>
    cases lx with
    | cons y lx => obtain ⟨b, off, e, _⟩ := h2 0 y rfl; cases e
    | nil =>
      rw [hc rfl] at hx
      refine wpList_append_own_none hgd s x _ ho B 21 i0 1 Tryz.underlying22 hi v _ _ hs h1 hx (h v w (by rw [List.append_nil]; exact h1) (Below.refl _ _))
  | some ad =>
    refine wpList_append_own w hgd s x _ ho B 21 i0 _ 1 4 Tryz.underlying22 hi hz0 hz1 hz2 rfl (by decide) v _ _ hs h1 ad lx.length c (lx.map (Value.int .i32)) hx (by simp) (fun j u hu => ?_) (fun u hu => ?_) (by simp only [maxLen]; omega) (by omega) hB (fun v' w' hown hg _ => h v' w' ?_ ?_)
    · rw [List.getElem?_map] at hu
      obtain ⟨y, hy, rfl⟩ := Option.map_eq_some_iff.1 hu
      obtain ⟨b, off, e, _, hcell⟩ := h2 j y hy
      cases e
      rw [add_at, hcell]
    · obtain ⟨y, _, rfl⟩ := List.mem_map.1 hu
      rfl
    · show w'.ownsRow B 21 1 v' _ _
      rw [List.length_append, List.map_append]; exact hown
    · exact (Below.refl _ _).grown hg hB (own_ge h1)
theorem Runes.take {w : World} {A : Option Addr} {l : List Int} (h : Runes w A l) (k : Nat) : Runes w A (l.take k) := by
  intro i c hc
  refine h i c ?_
  rw [List.getElem?_take] at hc
  split at hc
  · exact hc
  · cases hc
theorem Runes.drop {w : World} {b off : Nat} {l : List Int} (h : Runes w (some ⟨b, off, none⟩) l) (k : Nat) : Runes w (some ⟨b, off + k, none⟩) (l.drop k) := by
  intro i c hc
  rw [List.getElem?_drop] at hc
  obtain ⟨b', off', e, hlt, hcell⟩ := h (k + i) c hc
  cases e
  exact ⟨b, off + k, rfl, hlt, by rw [Nat.add_assoc]; exact hcell⟩
theorem Runes.tail {w : World} {b off cap p : Nat} {l : List Int} (h : Runes w (some ⟨b, off, none⟩) l) (hc : l.length ≤ cap) : Runes w (if cap = p then some ⟨b, off, none⟩ else some ⟨b, off + p, none⟩) (l.drop p) := by
  split
  · intro i c hi
    rw [List.drop_eq_nil_of_le (by omega)] at hi
    simp at hi
  · exact h.drop p
theorem Runes.nil_ {w : World} {X : Option Addr} : Runes w X [] := fun i c hc => by simp at hc
theorem runes_one (w : World) (c : Int) : Runes (w.alloc (.cells #[.int .i32 c] 21)) (some ⟨w.heap.size, 0, none⟩) [c] := by
  intro i x hx
  obtain ⟨rfl, rfl⟩ : i = 0 ∧ x = c := by
    cases i with
    | zero => simp at hx; exact ⟨rfl, hx.symm⟩
    | succ i => simp at hx
  exact ⟨_, _, rfl, by simp, by simp⟩
end Go.Proofs.YtfaieldafoeaiaaGreatDoor

/-
  The program's small functions of layer 4: isScalar, threshold, valueOf, adapt, Compare.
-/
namespace Go.Proofs.YtfaieldafoeaiaaGreatDoor
open Go.RowKit

set_option maxHeartbeats 400000 in
theorem qscalar_any (n : Int) (w : World) :
    Calls Tryz.prog 47 #[.int .i64 n] w fun e w' => e = .returned (.bool (scal n)) ∧ w = w' := by
  go_enter Tryz.func47, Tryz.ntmps47
  go_wp2
  all_goals
    go_ret
    refine ⟨ret_bool ?_, rfl⟩
    rw [Bool.eq_iff_iff, scal_iff]
    simp
    try omega

theorem qthr_any (k b : Nat) (x y : Int) (w : World) (hx : x = (k : Int)) (hy : y = (b : Int)) (_ : k ≤ 1125899906842624) (hb : b ≤ 1125899906842624) :
    Calls Tryz.prog 76 #[.int .i64 x, .int .i64 y] w fun e w' => e = .returned (.int .i64 (thr k b : Int)) ∧ w = w' := by
  subst hx; subst hy
  go_enter Tryz.func76, Tryz.ntmps76
  go_wp2
  all_goals
    go_ret
    refine ⟨ret_int ?_, rfl⟩
    unfold thr
    repeat' split
    all_goals omega

/-- A digit's value, and whether it is one. -/
def dvalN (c : Int) : Int := if 0 ≤ dval c then dval c else 0
set_option maxHeartbeats 400000 in
theorem qvalue_any (c : UInt8) (w : World) :
    Calls Tryz.prog 75 #[.int .u8 (c.toNat : Int)] w fun e w' => e = .returned (.tuple #[.int .i64 (dvalN c.toNat), .bool (decide (0 ≤ dval c.toNat))]) ∧ w = w' := by
  have hu := c.toNat_lt
  have key : ∀ (v : Int) (t : Bool), (dval c.toNat = v ∧ 0 ≤ v ∧ t = true) ∨ (dval c.toNat < 0 ∧ v = 0 ∧ t = false) → Ending.returned (.tuple #[.int .i64 v, .bool t]) = .returned (.tuple #[.int .i64 (dvalN c.toNat), .bool (decide (0 ≤ dval c.toNat))]) := by
    intro v t h
    unfold dvalN
    rcases h with ⟨h1, h2, rfl⟩ | ⟨h1, rfl, rfl⟩
    · rw [h1, if_pos h2, decide_eq_true h2]
    · rw [if_neg (by omega), decide_eq_false (by omega)]
  go_enter Tryz.func75, Tryz.ntmps75
  go_wp2
  all_goals
    go_ret2
    refine ⟨key _ _ ?_, rfl⟩
    unfold dval
    repeat' split
    all_goals (first | (left; refine ⟨?_, ?_, rfl⟩ <;> omega) | (right; refine ⟨?_, ?_, rfl⟩ <;> omega))

set_option maxHeartbeats 400000 in
theorem qadapt_any (delta many : Nat) (once : Bool) (x y : Int) (w : World) (hx : x = (delta : Int)) (hy : y = (many : Int)) (hd : delta ≤ 2199023255552) (hm0 : 1 ≤ many) (hm1 : many ≤ 2199023255552) :
    Calls Tryz.prog 54 #[.int .i64 x, .int .i64 y, .bool once] w fun e w' => e = .returned (.int .i64 (adapt delta many once : Int)) ∧ w = w' := by
  subst hx; subst hy
  obtain ⟨d0, hd0⟩ : ∃ d0, (if once then delta / 700 else delta / 2) = d0 := ⟨_, rfl⟩
  have hd1 : d0 ≤ delta := by rw [← hd0]; split <;> omega
  obtain ⟨q, hqe⟩ : ∃ q, d0 / many = q := ⟨_, rfl⟩
  have hq : q ≤ d0 := by rw [← hqe]; exact Nat.div_le_self _ _
  have HA : Hid (adaptLoop (d0 + q) 0 = adapt delta many once) := by
    show adaptLoop (d0 + q) 0 = adapt delta many once
    unfold adapt; rw [hd0, hqe]
  have hdiv : (d0 : Int) / (many : Int) = (q : Int) := by
    rw [← hqe]; exact (Int.natCast_ediv _ _).symm
  clear hqe
  have hh : (if once then (delta : Int) / 700 else (delta : Int) / 2) = (d0 : Int) := by
    rw [← hd0]; split <;> omega
  clear hd0
  cases once
  all_goals
    simp only [if_true, if_false, Bool.false_eq_true] at hh
    go_enter Tryz.func54, Tryz.ntmps54
    go_wp2
    go_loopw [0, 7] (fun a b wr => ∃ d k : Nat, a = .int .i64 d ∧ b = .int .i64 k ∧ wr = w ∧ adaptLoop d k = adapt delta many _ ∧ d + k ≤ 4398046511104) (fun a _ _ => (intOf a).toNat)
    case atStart => exact ⟨d0 + q, 0, by go_num, rfl, rfl, HA.out, by omega⟩
    case round =>
      obtain ⟨d, k, rfl, rfl, rfl, hl, hb⟩ := hrel
      have HL := Lib.hid hl
      clear hl hdiv hh
      by_cases h : 455 < d
      · have HM := Lib.hid (adaptLoop_more (k := k) h)
        go_wp2
        go_roundw
        case rel => exact ⟨d / 35, k + 36, by go_num, by go_num, by first | rfl | trivial, by rw [← HM.out]; exact HL.out, by omega⟩
        case measure => simp [intOf]; omega
      · have HM := Lib.hid (adaptLoop_end (k := k) h)
        obtain ⟨r, hr⟩ : ∃ r, 36 * d / (d + 38) = r := ⟨_, rfl⟩
        have hr0 : r ≤ 36 := by
          rw [← hr]
          apply Nat.div_le_of_le_mul
          rw [Nat.mul_comm]
          exact Nat.mul_le_mul_right _ (by omega)
        have hri : (36 * (d : Int)) / ((d : Int) + 38) = (r : Int) := by
          rw [← hr]
          simp
        rw [hr] at HM
        clear hr
        go_wp2
        go_ret
        exact ⟨ret_int (by rw [← HL.out, HM.out]; omega), rfl⟩

/-- Compare. -/
def cmpI (a b : Int) : Int := if a < b then -1 else if b < a then 1 else 0
set_option maxHeartbeats 400000 in
theorem qnan_any (a : Int) (w : World) :
    Calls Tryz.prog 79 #[.int .i32 a] w fun e w' => e = .returned (.bool false) ∧ w = w' := by
  go_enter Tryz.func79, Tryz.ntmps79
  go_wp2
  all_goals
    go_ret
    refine ⟨ret_bool (by simp), rfl⟩
set_option maxHeartbeats 400000 in
theorem qcmp_any (a b : Int) (w : World) :
    Calls Tryz.prog 51 #[.int .i32 a, .int .i32 b] w fun e w' => e = .returned (.int .i64 (cmpI a b)) ∧ w = w' := by
  go_enter Tryz.func51, Tryz.ntmps51
  go_wp2_with (first
    | (go_at_call 79; refine (qnan_any _ _).mono ?_; rintro e w' ⟨rfl, rfl⟩))
  all_goals
    go_ret
    refine ⟨ret_int ?_, rfl⟩
    unfold cmpI
    repeat' split
    all_goals omega

set_option maxHeartbeats 400000 in
/-- The builder's length. -/
theorem qlen_any (B b : Nat) (l : List UInt8) (w : World) (h : Lib.IsBuilder 51 5 B b (Lib.byteCells l) w) :
    Calls Tryz.prog 33 #[.pointer (some ⟨b, 0, none⟩)] w fun e w' => e = .returned (.int .i64 l.length) ∧ w = w' := by
  obtain ⟨A, n, c, c1, hn⟩ : ∃ A n c, w.cell? ⟨b, 1, none⟩ = some (.slice A n c) ∧ n = l.length := by
    have : ∀ p, Lib.BuilderAt 51 5 B b p (Lib.byteCells l) w → ∃ A n c, w.cell? ⟨b, 1, none⟩ = some (.slice A n c) ∧ n = l.length := by
      rintro p ⟨_, v, hbk, hown, _⟩
      have e : w.cell? ⟨b, 1, none⟩ = some v := by rw [Lib.cell_of_heap hbk]; rfl
      rcases hown.2 with ⟨hv, h0⟩ | ⟨g, cap, cur, hv, _⟩
      · exact ⟨_, _, _, by rw [e, hv], by simpa [Lib.byteCells] using h0.symm⟩
      · exact ⟨_, _, _, by rw [e, hv], by simp [Lib.byteCells]⟩
    rcases h with h | h
    · exact this _ h
    · exact this _ h
  subst hn
  go_enter Tryz.func33, Tryz.ntmps33
  go_wp2
  go_ret
  exact ⟨rfl, rfl⟩
end Go.Proofs.YtfaieldafoeaiaaGreatDoor

/-
  strings.Builder: copyCheck, WriteByte and WriteString by a walk of their own, String by the shelf's contract.
-/
namespace Go.Proofs.YtfaieldafoeaiaaGreatDoor
open Go.Shelf Go.RowKit

def lays169_ren : Go.Shelf.Ren := ⟨fun | 169 => 34 | n => n, fun | 70 => 48 | 9 => 9 | 0 => 0 | 72 => 51 | 37 => 49 | 127 => 94 | 3 => 3 | 5 => 5 | n => n, fun | n => n⟩
theorem lays169 : Go.Proofs.Lays.n169 Tryz.prog lays169_ren := {
  mixed := by kernel_rfl
  f169 := Tryz.func34.trans (congrArg some (by kernel_rfl))
  t0 := Tryz.underlying0
  a0 := Tryz.isAgg0
  z0 := Tryz.sizeOf0
  v0 := Tryz.zeroValue0
  t3 := Tryz.underlying3
  a3 := Tryz.isAgg3
  z3 := Tryz.sizeOf3
  v3 := Tryz.zeroValue3
  t9 := Tryz.underlying9
  a9 := Tryz.isAgg9
  z9 := Tryz.sizeOf9
  v9 := Tryz.zeroValue9
  t37 := Tryz.underlying49
  a37 := Tryz.isAgg49
  z37 := Tryz.sizeOf49
  v37 := Tryz.zeroValue49
  t70 := Tryz.underlying48
  a70 := Tryz.isAgg48
  z70 := Tryz.sizeOf48
  v70 := Tryz.zeroValue48
  t72 := Tryz.underlying51
  a72 := Tryz.isAgg51
  z72 := Tryz.sizeOf51
  v72 := Tryz.zeroValue51
  t127 := Tryz.underlying94
  a127 := Tryz.isAgg94
  z127 := Tryz.sizeOf94
  v127 := Tryz.zeroValue94 }
theorem bldExtra : Builder.Extra Tryz.prog lays169_ren := {
  sizeBuilder := by kernel_rfl
  liesBuilder := by kernel_rfl
  t5 := Tryz.underlying5
  a5 := Tryz.isAgg5
  z5 := Tryz.sizeOf5
  v5 := Tryz.zeroValue5
  infoByte := by kernel_rfl
  cellsByte := by kernel_rfl
  sizeByte := by kernel_rfl
  neB5 := by decide }
/-- String: whatever the builder holds. -/
theorem bld_string (B b : Nat) (l : List UInt8) (w : World) (h : Lib.IsBuilder 51 5 B b (Lib.byteCells l) w) (hBw : B ≤ w.heap.size) :
    Calls Tryz.prog 34 #[.pointer (some ⟨b, 0, none⟩)] w fun e w' => e = .returned (.string ⟨l.toArray⟩) ∧ Below B w w' :=
  Any.Builder_String_any lays169 bldExtra B b l w h hBw

theorem grown_of_below {w w' : World} (h : Below w.heap.size w w') : w.grownBy w' none := ⟨h.os, h.tape, h.output, h.size, fun k hk _ => h.block k hk⟩
theorem owns_below {w w' : World} {base : Nat} {e : TypeId} {size : Nat} {v : Value} {n : Nat} {xs : List Value} (h : w.ownsRow base e size v n xs) (hb : Below w.heap.size w w') : w'.ownsRow base e size v n xs := by
  refine h.kept (grown_of_below hb) ?_
  cases hv : v.ownBlock with
  | none => exact .inl rfl
  | some k => exact .inr (by simp)
theorem builderAt_below {T e : TypeId} {B b : Nat} {p : Value} {bs : List Value} {w w' : World} (h : Lib.BuilderAt T e B b p bs w) (hb : Below w.heap.size w w') : Lib.BuilderAt T e B b p bs w' := by
  obtain ⟨hB, v, hbk, hown, hne⟩ := h
  exact ⟨hB, v, (hb.block b (Array.getElem?_eq_some_iff.1 hbk).1).trans hbk, owns_below hown hb, hne⟩
theorem isBuilder_below {T e : TypeId} {B b : Nat} {bs : List Value} {w w' : World} (h : Lib.IsBuilder T e B b bs w) (hb : Below w.heap.size w w') : Lib.IsBuilder T e B b bs w' :=
  h.elim (fun x => .inl (builderAt_below x hb)) (fun x => .inr (builderAt_below x hb))

theorem Tryz.sizeBuilder : (Tryz.prog.info? 51).map (·.size) = some 2 := by kernel_rfl

set_option maxHeartbeats 1000000 in
set_option maxRecDepth 100000 in
theorem copyCheck_used (b : Nat) (w : World) (h0 : w.cell? ⟨b, 0, none⟩ = some (.pointer (some ⟨b, 0, none⟩))) :
    Calls Tryz.prog 68 #[.pointer (some ⟨b, 0, none⟩)] w fun e w' => e = .returned (.tuple #[]) ∧ w = w' := by
  obtain ⟨j, hj, _⟩ := Option.map_eq_some_iff.1 Tryz.sizeBuilder
  go_enter Tryz.func68, Tryz.ntmps68
  go_wp2
  rw [Lib.run_neq_ptr_same w _ Tryz.underlying48 hj]
  go_wp2
  go_end0
  exact ⟨rfl, rfl⟩

set_option maxHeartbeats 1000000 in
set_option maxRecDepth 100000 in
theorem copyCheck_fresh (b : Nat) (w : World) (h0 : w.cell? ⟨b, 0, none⟩ = some (.pointer none)) (hsh : w.shape? b = some (51, 2)) (hfz : w.frozen? ⟨b, 0, none⟩ = false) :
    Calls Tryz.prog 68 #[.pointer (some ⟨b, 0, none⟩)] w fun e w' => e = .returned (.tuple #[]) ∧ w.setCell ⟨b, 0, none⟩ (.pointer (some ⟨b, 0, none⟩)) = w' := by
  obtain ⟨j, hj, hjs⟩ := Option.map_eq_some_iff.1 Tryz.sizeBuilder
  go_enter Tryz.func68, Tryz.ntmps68
  go_wp2
  rw [Lib.run_to_unsafe w ⟨b, 0, none⟩ Tryz.underlying48 Tryz.underlying125 hj (by rw [hjs]; decide) hsh (Nat.zero_lt_succ 1)]
  simp only [Result.andThen]
  rw [Oper.upon_value]
  go_wp2
  rw [run_callFunc_extern Tryz.func92 (by kernel_rfl) (by kernel_rfl) (by kernel_rfl) (e := Extern.AbiNoEscape.same) (by kernel_rfl)]
  rw [Lib.run_noEscape]
  simp only [Result.andThen]
  rw [Oper.upon_value]
  go_wp2
  rw [Lib.run_from_unsafe w ⟨b, 0, none⟩ Tryz.underlying125 Tryz.underlying48 hj hsh (by kernel_rfl)]
  simp only [Result.andThen]
  rw [Oper.upon_value]
  go_wp2
  go_end0
  exact ⟨rfl, rfl⟩
theorem copyCheck_any (B b : Nat) (bs : List Value) (w : World) (h : Lib.IsBuilder 51 5 B b bs w) :
    Calls Tryz.prog 68 #[.pointer (some ⟨b, 0, none⟩)] w fun e w' => e = .returned (.tuple #[]) ∧ (Lib.BuilderAt 51 5 B b (.pointer (some ⟨b, 0, none⟩)) bs w' ∧ Below B w w') := by
  rcases h with h | h
  · refine (copyCheck_fresh b w h.cell0 h.shape h.frozen0).mono ?_
    rintro e w' ⟨rfl, rfl⟩
    exact ⟨rfl, h.used _, (Below.refl B w).setCell (p := ⟨b, 0, none⟩) h.1 _⟩
  · refine (copyCheck_used b w h.cell0).mono ?_
    rintro e w' ⟨rfl, rfl⟩
    exact ⟨rfl, h, Below.refl B _⟩

set_option maxHeartbeats 1000000 in
set_option maxRecDepth 100000 in
/-- WriteString. -/
theorem bld_write (B b : Nat) (bs : List Value) (s : ByteArray) (w : World) (h : Lib.IsBuilder 51 5 B b bs w) (hlen : bs.length + s.size ≤ 1000000) (hBw : B ≤ w.heap.size) :
    Calls Tryz.prog 32 #[.pointer (some ⟨b, 0, none⟩), .string s] w fun e w' => e = .returned (.tuple #[.int .i64 s.size, .nilIface]) ∧ (Lib.IsBuilder 51 5 B b (bs ++ Lib.strCells s) w' ∧ Below B w w') := by
  obtain ⟨i0, hi, hz0, hz1, hz2⟩ := info_parts bldExtra.infoByte
  go_enter Tryz.func32, Tryz.ntmps32
  go_wp2_with (go_at_call 68; refine (copyCheck_any B b bs _ h).mono ?_)
  rintro e w1 ⟨rfl, h1, hb1⟩
  obtain ⟨hB, v, hbk, hown, hne⟩ := h1
  have c0 : w1.cell? ⟨b, 0, none⟩ = some (.pointer (some ⟨b, 0, none⟩)) := by rw [Lib.cell_of_heap hbk]; rfl
  have c1 : w1.cell? ⟨b, 1, none⟩ = some v := by rw [Lib.cell_of_heap hbk]; rfl
  go_wp2_with (at_builtin; refine Lib.wpList_append_own_string _ rfl _ _ 49 9 rfl B 5 i0 Tryz.underlying49 Tryz.underlying9 hi hz0 hz1 hz2 _ _ _ rfl hown s rfl ?c3 ?c4 ?c5 ?_)
  case c3 => unfold maxLen; omega
  case c4 => omega
  case c5 => have := hb1.size; omega
  intro v' w2 hown' hgrow _
  have hlt : b < w1.heap.size := by
    rcases Nat.lt_or_ge b w1.heap.size with h' | h'
    · exact h'
    · simp [Array.getElem?_eq_none h'] at hbk
  have hb2 : w2.heap[b]? = some (.cells #[.pointer (some ⟨b, 0, none⟩), v] 51 (0, 0)) := by
    rw [hgrow.block b hlt (fun e => hne e.symm)]
    exact hbk
  have d0 : w2.cell? ⟨b, 0, none⟩ = some (.pointer (some ⟨b, 0, none⟩)) := by rw [Lib.cell_of_heap hb2]; rfl
  have d1 : w2.cell? ⟨b, 1, none⟩ = some v := by rw [Lib.cell_of_heap hb2]; rfl
  have f1 : w2.frozen? ⟨b, 1, none⟩ = false := Lib.frozen_of_heap hb2 1
  obtain ⟨ao, n', cap, rfl⟩ : ∃ ao n' cap, v' = .slice ao n' cap := by
    rcases hown'.2 with ⟨hv, _⟩ | ⟨g, cap, cur, hv, _⟩
    · exact ⟨_, _, _, hv⟩
    · exact ⟨_, _, _, hv⟩
  go_wp2
  go_ret2
  refine ⟨rfl, .inr ?_, ?_⟩
  · exact Lib.BuilderAt.put (T := 51) (e := 5) hB hb2 (bs' := bs ++ Lib.strCells s) (by simpa [Lib.strCells_length] using hown') (by decide)
  · exact (hb1.grown hgrow (by have := hb1.size; omega) (fun k hk => (hown.lt k hk).1)).setCell (p := ⟨b, 1, none⟩) hB _

/-- A builder of the call's own, with its bytes. -/
def Bld (B b : Nat) (l : List UInt8) (w : World) : Prop := Lib.IsBuilder 51 5 B b (Lib.byteCells l) w

set_option maxHeartbeats 1000000 in
set_option maxRecDepth 100000 in
/-- WriteByte. -/
theorem bld_byte0 (B b : Nat) (bs : List Value) (c : Int) (w : World) (h : Lib.IsBuilder 51 5 B b bs w) (hlen : bs.length + 1 ≤ 1000000) (hBw : B ≤ w.heap.size) :
    Calls Tryz.prog 31 #[.pointer (some ⟨b, 0, none⟩), .int .u8 c] w fun e w' => e = .returned .nilIface ∧ (Lib.IsBuilder 51 5 B b (bs ++ [.int .u8 c]) w' ∧ Below B w w') := by
  obtain ⟨i0, hi, hz0, hz1, hz2⟩ := info_parts bldExtra.infoByte
  go_enter Tryz.func31, Tryz.ntmps31
  go_wp2_with (go_at_call 68; refine (copyCheck_any B b bs _ h).mono ?_)
  rintro e w1 ⟨rfl, h1, hb1⟩
  obtain ⟨hB, v, hbk, hown, hne⟩ := h1
  have c0 : w1.cell? ⟨b, 0, none⟩ = some (.pointer (some ⟨b, 0, none⟩)) := by rw [Lib.cell_of_heap hbk]; rfl
  have c1 : w1.cell? ⟨b, 1, none⟩ = some v := by rw [Lib.cell_of_heap hbk]; rfl
  go_wp2_with (at_builtin; refine wpList_append_own _ rfl _ _ 49 rfl B 5 i0 (.int .u8 0) 1 1 Tryz.underlying49 hi hz0 hz1 hz2 rfl (by decide) _ _ _ rfl (hown.alloc _) ⟨w1.heap.size, 0, none⟩ 1 1 [.int .u8 c] rfl rfl ?c1 ?c2 ?c3 ?c4 ?c5 ?_)
  case c1 =>
    intro j u hj
    match j, hj with
    | 0, hj => simp at hj; subst hj; simp [Addr.add]
  case c2 => intro u hu; simp at hu; subst hu; rfl
  case c3 => unfold maxLen; omega
  case c4 => omega
  case c5 => have := hb1.size; simp; omega
  intro v' w2 hown' hgrow _
  have hlt : b < w1.heap.size := by
    rcases Nat.lt_or_ge b w1.heap.size with h' | h'
    · exact h'
    · simp [Array.getElem?_eq_none h'] at hbk
  have hb2 : w2.heap[b]? = some (.cells #[.pointer (some ⟨b, 0, none⟩), v] 51 (0, 0)) := by
    rw [hgrow.block b (by simp; omega) (fun e => hne e.symm), Lib.alloc_old w1 _ b hlt]
    exact hbk
  have d0 : w2.cell? ⟨b, 0, none⟩ = some (.pointer (some ⟨b, 0, none⟩)) := by rw [Lib.cell_of_heap hb2]; rfl
  have d1 : w2.cell? ⟨b, 1, none⟩ = some v := by rw [Lib.cell_of_heap hb2]; rfl
  have f1 : w2.frozen? ⟨b, 1, none⟩ = false := Lib.frozen_of_heap hb2 1
  obtain ⟨g, cap, rfl⟩ : ∃ g cap, v' = .slice (some ⟨g, 0, none⟩) (bs.length + 1) cap := by
    rcases hown'.2 with ⟨_, h0⟩ | ⟨g, cap, cur, hv, _⟩
    · omega
    · exact ⟨g, cap, hv⟩
  go_wp2
  go_ret
  refine ⟨rfl, .inr ?_, ?_⟩
  · exact Lib.BuilderAt.put (T := 51) (e := 5) hB hb2 (bs' := bs ++ [.int .u8 c]) (by simpa using hown') (by decide)
  · exact ((hb1.alloc (by have := hb1.size; omega) _).grown hgrow (by have := hb1.size; simp; omega) (fun k hk => (hown.lt k hk).1)).setCell (p := ⟨b, 1, none⟩) hB _

theorem byteCells_append (a b : List UInt8) : Lib.byteCells (a ++ b) = Lib.byteCells a ++ Lib.byteCells b := by simp [Lib.byteCells]
theorem byteCells_length (a : List UInt8) : (Lib.byteCells a).length = a.length := by simp [Lib.byteCells]
/-- WriteByte, of bytes. -/
theorem bld_byte (B b : Nat) (l : List UInt8) (c : UInt8) (x : Int) (w : World) (h : Bld B b l w) (hx : x = (c.toNat : Int)) (hlen : l.length + 1 ≤ 1000000) (hBw : B ≤ w.heap.size) :
    Calls Tryz.prog 31 #[.pointer (some ⟨b, 0, none⟩), .int .u8 x] w fun e w' => e = .returned .nilIface ∧ (Bld B b (l ++ [c]) w' ∧ Below B w w') := by
  subst hx
  refine (bld_byte0 B b (Lib.byteCells l) c.toNat w h (by rw [byteCells_length]; exact hlen) hBw).mono ?_
  rintro e w' ⟨rfl, h1, h2⟩
  exact ⟨rfl, by unfold Bld; rw [byteCells_append]; exact h1, h2⟩
/-- WriteString, of bytes. -/
theorem bld_text (B b : Nat) (l : List UInt8) (s : ByteArray) (w : World) (h : Bld B b l w) (hlen : l.length + s.size ≤ 1000000) (hBw : B ≤ w.heap.size) :
    Calls Tryz.prog 32 #[.pointer (some ⟨b, 0, none⟩), .string s] w fun e w' => e = .returned (.tuple #[.int .i64 s.size, .nilIface]) ∧ (Bld B b (l ++ s.data.toList) w' ∧ Below B w w') := by
  refine (bld_write B b (Lib.byteCells l) s w h (by rw [byteCells_length]; exact hlen) hBw).mono ?_
  rintro e w' ⟨rfl, h1, h2⟩
  exact ⟨rfl, by unfold Bld; rw [byteCells_append]; exact h1, h2⟩
theorem Bld.below {B b : Nat} {l : List UInt8} {w w' : World} (h : Bld B b l w) (hb : Below w.heap.size w w') : Bld B b l w' := isBuilder_below h hb
/-- String. -/
theorem bld_done (B b : Nat) (l : List UInt8) (w : World) (h : Bld B b l w) (hBw : B ≤ w.heap.size) :
    Calls Tryz.prog 34 #[.pointer (some ⟨b, 0, none⟩)] w fun e w' => e = .returned (.string ⟨l.toArray⟩) ∧ Below B w w' :=
  bld_string B b l w h hBw
end Go.Proofs.YtfaieldafoeaiaaGreatDoor

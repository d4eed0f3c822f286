/-
  In this text, one behind the other: FIs, KCon, JTop, JFold, NCon, LAll, LCon, HCheck, HOne, HBld, HParts.
-/
import Derived.RangeFuncNested
import Derived.RangeFuncBound
import Derived.RangeFuncCalls
import Derived.RangeFuncLeaves
import Derived.RangeFuncBox
import Derived.Maps.AppendAt
import Derived.Shelf.Strings.BuilderK
import Derived.Shelf.Abstract
import Derived.OwnWalkIn
import Derived.TacticsInMore
import Derived.LoopNIn
import Derived.LoopIn
import Derived.Sort.LoopGhostIn
import Derived.Test.YtfaieldafoeaiaaDoorG3
import Derived.Test.YtfaieldafoeaiaaDoorG2
/-
  errors.is and errors.Is, of a chain that ends in a number, against a number.
-/
namespace Go.Proofs.YtfaieldafoeaiaaDoor
open Go.RowKit Go.Extern.Stop Go.Stop Go.Extern

theorem eql_in (P : Program) (w : World) (d : Nat) {ti tn : TypeId} {ms : Array (String × TypeId)} {i : TypeInfo} {k : IntKind} (a b : Int)
    (hi : P.underlying ti = some (.interface ms)) (hn : P.underlying tn = some (.int k)) (hinfo : P.info? tn = some i) (hcomp : i.comparable = true) :
    (Op.equalIn (d + 2) ti (.iface tn (.int k a)) (.iface tn (.int k b))).run P w = .ok (a == b) w := by
  simp [Op.equalIn, run_underlying hi, run_underlying hn, typeInfo, hinfo, hcomp]
/-- Two numbers of one type, as values of an interface. -/
theorem eql_numbers (a b : Int) (w : World) : (binOp .eql 25 (.iface 30 (.int .i64 a)) (.iface 30 (.int .i64 b))).run Tryd.prog w = .ok (.bool (a == b)) w := by
  obtain ⟨i, hi, hc⟩ := Option.map_eq_some_iff.1 (show (Tryd.prog.info? 30).map (·.comparable) = some true by kernel_rfl)
  simp only [binOp]
  simp [Op.equal, Op.maxDepth, eql_in Tryd.prog w 9998 a b Tryd.underlying25 Tryd.underlying30 hi hc]
theorem eql_types (p : Addr) (b : Int) (w : World) : (binOp .eql 25 (.iface 101 (.pointer (some p))) (.iface 30 (.int .i64 b))).run Tryd.prog w = .ok (.bool false) w :=
  run_eql_iface_types _ _ _ _ Tryd.underlying25 (by decide) w
theorem comparableE (w : World) : (callFunc 109 #[.agg #[.pointer (some ⟨6, 30, none⟩)]]).run Tryd.prog w = .ok (.value (.bool true)) w := by kernel_rfl

def IsRel (w : World) (n : Int) (k : Nat) (p : Value) (wr : World) : Prop := wr = w ∧ ∃ cs, cs.length = k ∧ Chain w cs (some n) p

set_option maxHeartbeats 4000000 in
set_option maxRecDepth 100000 in
theorem is1_any (cs : List ByteArray) (n m : Int) (u : TypeId) (x : Value) (w : World) (hc : Chain w cs (some n) (.iface u x)) :
    Calls Tryd.prog 30 #[.iface u x, .iface 30 (.int .i64 m), .bool true] w fun e w' => e = .returned (.bool (n == m)) ∧ w = w' := by
  have HC := Lib.hid hc
  clear hc
  have mU := methodUnwrap
  have isE := assertIsE
  have isF := assertIsF
  have o1E := assertOneE
  have o1F := assertOneF
  have omE := assertManyE
  have eN := eql_numbers
  have eT := eql_types
  go_enter Tryd.func30, Tryd.ntmps30
  go_wp2
  go_loopg [0] cs.length (fun k p wr => IsRel w n k p wr)
  case atStart => exact ⟨rfl, cs, rfl, HC.out⟩
  case round =>
    obtain ⟨rfl, ds, hk, hch⟩ := hrel
    cases ds with
    | nil =>
      obtain rfl : _ = Value.iface 30 (.int .i64 n) := hch
      clear hk
      by_cases hnm : (n == m) = true
      · go_wp2
        go_ret
        exact ⟨by rw [hnm]; rfl, rfl⟩
      · have hf : (n == m) = false := by simpa using hnm
        clear hnm
        go_wp2
        go_ret
        exact ⟨by rw [hf]; rfl, rfl⟩
    | cons d ds =>
      obtain ⟨b, v', rfl, hlt, hc0, hc1, hrest⟩ := hch
      obtain ⟨u2, x2, rfl⟩ := hrest.held
      have HR := Lib.hid hrest
      have HK := Lib.hid hk
      clear hrest hk
      go_wp2_with (go_at_call 119; refine (unwrap_at b _ _ hc1).mono ?_; rintro e w' ⟨rfl, rfl⟩)
      go_roundg ds.length
      case measure => rw [← HK.out]; simp
      case rel => exact ⟨rfl, ds, rfl, HR.out⟩

set_option maxHeartbeats 4000000 in
set_option maxRecDepth 100000 in
theorem is_any (cs : List ByteArray) (n m : Int) (u : TypeId) (x : Value) (w : World) (hc : Chain w cs (some n) (.iface u x)) :
    Calls Tryd.prog 10 #[.iface u x, .iface 30 (.int .i64 m)] w fun e w' => e = .returned (.bool (n == m)) ∧ w = w' := by
  have HC := Lib.hid hc
  clear hc
  have x25 := @run_callFunc_extern Tryd.prog 29 _ ReflectliteType.typeOf Tryd.func29 (by kernel_rfl) (by kernel_rfl) (by kernel_rfl) (by kernel_rfl)
  have tOE := typeOfE
  have mC := methodComparable
  have cE := comparableE
  go_enter Tryd.func10, Tryd.ntmps10
  go_wp2_with (go_at_call 30; refine (is1_any cs n m u x _ HC.out).mono ?_; rintro e w' ⟨rfl, rfl⟩)
  go_ret
  exact ⟨rfl, rfl⟩
end Go.Proofs.YtfaieldafoeaiaaDoor

/-
  What the program's Map, Compose and Fold of layer 5 are held against; the numbers that folding tells.
-/
namespace Go.Proofs.YtfaieldafoeaiaaDoor
open Go.RowKit

theorem bnext {w a b : World} (h : Below w.heap.size w a) (k : Below a.heap.size a b) : Below w.heap.size w b := h.trans (k.mono h.size)
def Yes (w : World) (e : Ending) (w' : World) : Prop := e = .returned (.bool true) ∧ Below w.heap.size w w'
def MapOk (l : List Int) (w : World) (e : Ending) (w' : World) : Prop := ∃ A c, e = .returned (.tuple #[.slice A l.length c, .bool true]) ∧ Runes w' A l ∧ Below w.heap.size w w'
def RunesPost (l : List Int) (w : World) (e : Ending) (w' : World) : Prop := ∃ A c, e = .returned (.slice A l.length c) ∧ Runes w' A l ∧ l.length ≤ c ∧ Below w.heap.size w w'
def FoldPost (o : Option (List Int)) (w : World) (e : Ending) (w' : World) : Prop := match o with
  | none => ∃ cs u x, e = .returned (.tuple #[.slice none 0 0, .iface u x]) ∧ Chain w' cs (some 2) (.iface u x) ∧ Below w.heap.size w w'
  | some l => ∃ A c, e = .returned (.tuple #[.slice A l.length c, .nilIface]) ∧ Runes w' A l ∧ (l.length ≤ c ∧ (A = none → c = 0)) ∧ Below w.heap.size w w'
/-- The numbers of a rune. -/
def R32 (c : Int) : Prop := -2147483648 ≤ c ∧ c < 2147483648
theorem mapTo_rng {c : Int} (h : ¬ Barred c) : ∀ x ∈ mapTo c, R32 x := by
  have h0 : 0 ≤ c ∧ c ≤ 1114111 := by unfold Barred at h; omega
  intro x hx
  unfold mapTo down wide at hx
  repeat' split at hx
  all_goals simp only [List.mem_cons, or_false, List.not_mem_nil] at hx
  all_goals unfold R32; omega
theorem mapAll_rng {l m : List Int} (h : mapAll l = some m) : ∀ x ∈ m, R32 x := by
  induction l generalizing m with
  | nil => simp only [mapAll, Option.some.injEq] at h; subst h; simp
  | cons c l ih =>
    unfold mapAll at h
    split at h
    · cases h
    · rename_i hb
      obtain ⟨k, hk, rfl⟩ := Option.map_eq_some_iff.1 h
      intro x hx
      rcases List.mem_append.1 hx with hx | hx
      · exact mapTo_rng hb x hx
      · exact ih hk x hx
theorem pairs_rng : ∀ p ∈ pairs, -2147483648 ≤ p.2.2 ∧ p.2.2 < 2147483648 := by decide +kernel
theorem comp_rng : ∀ (n : Nat) (l : List Int), l.length ≤ n → (∀ x ∈ l, R32 x) → ∀ x ∈ comp l, R32 x := by
  intro n
  induction n with
  | zero => intro l h hl; rw [List.eq_nil_of_length_eq_zero (l := l) (by omega)]; simp [comp]
  | succ n ih =>
    intro l h hl
    match l, h, hl with
    | [], _, _ => simp [comp]
    | [a], _, hl => simpa [comp] using hl
    | a :: b :: t, h, hl =>
      simp only [List.length_cons] at h
      by_cases e : madeOf a b = 0
      · rw [comp_keep e]
        intro x hx
        rcases List.mem_cons.1 hx with rfl | hx
        · exact hl _ (List.mem_cons_self ..)
        · exact ih (b :: t) (by simp only [List.length_cons]; omega) (fun y hy => hl y (List.mem_cons_of_mem _ hy)) x hx
      · rw [comp_pair e]
        intro x hx
        rcases List.mem_cons.1 hx with rfl | hx
        · exact pairs_rng _ (madeIn_ne e)
        · exact ih t (by omega) (fun y hy => hl y (List.mem_cons_of_mem _ (List.mem_cons_of_mem _ hy))) x hx
theorem fold_rng {l a : List Int} (h : foldL l = some a) : ∀ x ∈ a, R32 x := by
  obtain ⟨m, hm, rfl⟩ := Option.map_eq_some_iff.1 h
  exact comp_rng m.length m (Nat.le_refl _) (mapAll_rng hm)
theorem rng_app {a b : List Int} (ha : ∀ x ∈ a, R32 x) (hb : ∀ x ∈ b, R32 x) : ∀ x ∈ a ++ b, R32 x := fun x hx => (List.mem_append.1 hx).elim (ha x) (hb x)
theorem fold_length {l a : List Int} (h : foldL l = some a) : a.length ≤ 2 * l.length := by
  obtain ⟨m, hm, rfl⟩ := Option.map_eq_some_iff.1 h
  have h1 := mapAll_length hm
  have h2 := comp_length m.length m (Nat.le_refl _)
  omega
theorem runes_new (w : World) (l : List Int) (t : TypeId) : Runes (w.alloc (.cells (l.map (Value.int .i32)).toArray t)) (some ⟨w.heap.size, 0, none⟩) l := by
  intro i c hc
  refine ⟨w.heap.size, 0, rfl, by simp, ?_⟩
  rw [World.cell?_alloc_at _ _ _ _ rfl, Nat.zero_add]
  simp [hc]
end Go.Proofs.YtfaieldafoeaiaaDoor

/-
  The program's Map, Compose and Fold do as the document says.
-/
namespace Go.Proofs.YtfaieldafoeaiaaDoor
open Go.RowKit

theorem boxI_new (w : World) (g : List Int → List Int) (hg : g [] = []) (hv : Vars w) : BoxI w w.heap.size g [] (w.alloc (.cells #[.slice none 0 0] 22)) := by
  have hb := (Below.refl w.heap.size w).alloc (Nat.le_refl _) (.cells #[.slice none 0 0] 22)
  refine ⟨hv.below hb, hb, Nat.le_refl _, by simp, fun _ => heap_alloc_new w _, .slice none 0 0, heap_alloc_new w _, ?_⟩
  rw [hg]
  exact World.ownsRow_nil _ _ _ _
theorem RowN.reads {B : Nat} {w : World} {v : Value} {l : List Int} (h : RowN B w v l) : ∃ A c, v = .slice A l.length c ∧ Runes w A l ∧ (l.length ≤ c ∧ (A = none → c = 0)) := by
  have h' : w.ownsRow B 21 1 v l.length (l.map (Value.int .i32)) := h
  rcases h.2 with ⟨rfl, h0⟩ | ⟨g, cap, cur, rfl, hh⟩
  · obtain rfl := List.eq_nil_of_length_eq_zero h0
    exact ⟨none, 0, rfl, fun i s hs => by simp at hs, Nat.le_refl _, fun _ => rfl⟩
  · refine ⟨_, _, rfl, fun i s hs => ?_, hh.2.2.1, fun e => by cases e⟩
    have hi : i < l.length := (List.getElem?_eq_some_iff.1 hs).1
    have hc := h'.cellAt (g := g) i (by simpa using hi)
    refine ⟨g, 0, rfl, (Array.getElem?_eq_some_iff.1 hh.2.1).1, ?_⟩
    rw [Nat.zero_add, hc, List.getElem?_map, hs]; rfl

end Go.Proofs.YtfaieldafoeaiaaDoor

/-
  The program's Fold does as the document says.
-/
namespace Go.Proofs.YtfaieldafoeaiaaDoor
open Go.RowKit

set_option maxHeartbeats 1000000 in
set_option maxRecDepth 100000 in
theorem fold_p (A : Option Addr) (l : List Int) (cap : Nat) (w : World) (hv : Vars w) (hrg : ∀ c ∈ l, R32 c) (hr : Runes w A l) (hl : l.length ≤ 1400) :
    Calls Tryd.prog 11 #[.slice A l.length cap] w (FoldPost (foldL l) w) := by
  have hmf : ∀ (fn : Fn) (first cap : Array Value) (w : World), (Instr.makeFunc fn first cap).run Tryd.prog w = .ok (.func fn first cap) w := fun _ _ _ _ => rfl
  have HN0 := Lib.hid (boxI_new w comp rfl hv)
  have HTk := Lib.hid (takes_fold w hv w.heap.size)
  have HR := Lib.hid hr
  have HG := Lib.hid hrg
  clear hv hr hrg
  go_enter Tryd.func11, Tryd.ntmps11
  go_wp2
  go_loopw [11] (fun i wr => ∃ (k : Nat) (m : List Int), k ≤ l.length ∧ i = .int .i64 k ∧ BoxI w w.heap.size comp m wr ∧ mapAll (l.take k) = some m) (fun i _ => l.length - (intOf i).toNat)
  case atStart => exact ⟨0, [], Nat.zero_le _, rfl, HN0.out, rfl⟩
  case round =>
    obtain ⟨k, m, hk, rfl, hi, hmm⟩ := hrel
    have hml : m.length ≤ 2800 := by
      have := mapAll_length hmm
      rw [List.length_take] at this
      omega
    by_cases hlt : k < l.length
    · obtain ⟨b, off, rfl, _, hc⟩ := (HR.out.below hi.old) k l[k] (List.getElem?_eq_getElem hlt)
      have hrg := HG.out l[k] (List.getElem_mem hlt)
      have HT := Lib.hid (tell_fold ⟨w.heap.size, 0, none⟩ (BoxI w w.heap.size comp) HTk.out l[k] m wr hi (by omega) hrg.1 hrg.2)
      by_cases hb : Barred l[k]
      · have HN : Hid (foldL l = none) := by
          show foldL l = none
          unfold foldL
          rw [mapAll_bad hlt hb]; rfl
        obtain ⟨x, hx⟩ : ∃ x, l[k] = x := ⟨_, rfl⟩
        rw [hx] at hc hb HT
        have HBd := Lib.hid hb
        clear hx hb hrg hi hmm
        go_wp2_with (first
          | (go_at_call 33; (with_reducible refine HT.out.mono ?_)
             rintro e w1 (⟨_, rfl, hi⟩ | ⟨hn, _⟩)
             rotate_left
             · exact absurd HBd.out hn
             have HI := Lib.hid hi
             clear hi)
          | (go_at_call 34; refine (wrap_held _ _ _ _).mono ?_; rintro e w' ⟨rfl, rfl⟩))
        go_ret2
        rw [HN.out]
        refine ⟨[⟨#[102, 111, 108, 100]⟩], _, _, rfl, Chain.lay (w := w1) (cs := []) (o := some 2) ⟨#[102, 111, 108, 100]⟩ rfl, ?_⟩
        exact HI.out.old.alloc HI.out.old.size _
      · have HSt := Lib.hid (mapAll_step hlt hb hmm)
        obtain ⟨x, hx⟩ : ∃ x, l[k] = x := ⟨_, rfl⟩
        rw [hx] at hc hb HT HSt
        have HBd := Lib.hid hb
        clear hx hb hrg hi hmm
        go_wp2_with (go_at_call 33; (with_reducible refine HT.out.mono ?_)
                     rintro e w1 (⟨hn, _⟩ | ⟨_, rfl, hi⟩)
                     · exact absurd hn HBd.out
                     have HI := Lib.hid hi
                     clear hi)
        go_roundw
        case rel => exact ⟨k + 1, m ++ mapTo x, hlt, by go_num, HI.out, HSt.out⟩
        case measure => simp [intOf]; omega
    · have HS : Hid (foldL l = some (comp m)) := by
        show foldL l = some (comp m)
        rw [List.take_of_length_le (by omega)] at hmm
        unfold foldL
        rw [hmm]; rfl
      obtain ⟨v, hc, _, hrow⟩ := hi.cell
      obtain ⟨A1, c1, hvv, hru, hcc⟩ := hrow.reads
      subst hvv
      have HP := Lib.hid (And.intro hru (And.intro hcc hi.old))
      clear hru hcc hrow hi hmm
      go_wp2
      go_ret2
      rw [HS.out]
      exact ⟨_, _, rfl, HP.out.1, HP.out.2.1, HP.out.2.2⟩

end Go.Proofs.YtfaieldafoeaiaaDoor

/-
  What the program's Encode and Decode of layer 4 are held against: their contracts, as hypotheses; and bounds on lengths.
-/
namespace Go.Proofs.YtfaieldafoeaiaaDoor
open Go.RowKit

theorem tellK_log (bias : Nat) : ∀ (n q k : Nat), q < 10 ^ n → (tellK q bias k).length ≤ n + 1 := by
  intro n
  induction n with
  | zero =>
    intro q k h
    have ht := thr_pos k bias
    rw [tellK_small (by omega)]; simp
  | succ n ih =>
    intro q k h
    have ht := thr_pos k bias
    by_cases hq : q < thr k bias
    · rw [tellK_small hq]; simp
    · rw [tellK_more hq, List.length_cons]
      have h1 : (q - thr k bias) / (36 - thr k bias) ≤ (q - thr k bias) / 10 := Nat.div_le_div_left (by omega) (by omega)
      have h2 : (q - thr k bias) / 10 < 10 ^ n := by
        rw [Nat.pow_succ] at h
        omega
      have := ih ((q - thr k bias) / (36 - thr k bias)) (k + 36) (Nat.lt_of_le_of_lt h1 h2)
      omega
theorem tells_len (basic : Nat) (ds : List Nat) : ∀ (bias h : Nat), (∀ d ∈ ds, d < 1000000000) → (tells basic ds bias h).length ≤ 10 * ds.length := by
  induction ds with
  | nil => intro bias h _; simp [tells]
  | cons d ds ih =>
    intro bias h hd
    have h1 := ih (adapt d (h + 1) (h == basic)) (h + 1) (fun x hx => hd x (List.mem_cons_of_mem _ hx))
    have h2 := tellK_log bias 9 d 36 (by have := hd d (List.mem_cons_self ..); simpa using this)
    show (tellK d bias 36 ++ _).length ≤ _
    rw [List.length_append, List.length_cons]
    omega
theorem deltas_small (ds : List Nat) : ∀ (cur : List Nat) (n i : Nat), (∀ x ∈ (runD ds cur n i).1, sc x = true) → (runD ds cur n i).1.length ≤ 250 → ∀ d ∈ ds, d < 1000000000 := by
  induction ds with
  | nil => intro cur n i _ _ d hd; cases hd
  | cons d ds ih =>
    intro cur n i hs hl x hx
    have hlen : cur.length + (d :: ds).length ≤ 250 := by rw [← runD_length (d :: ds) cur n i]; exact hl
    rw [List.length_cons] at hlen
    rcases List.mem_cons.1 hx with rfl | hx
    · have hin : n + (i + x) / (cur.length + 1) ∈ (runD (x :: ds) cur n i).1 := runD_mem ds _ _ _ _ (mem_ins.2 (.inl rfl))
      have hsc := hs _ hin
      have hle : (i + x) / (cur.length + 1) ≤ 1114111 := by
        have := sc_lt hsc
        exact Nat.le_trans (Nat.le_add_left _ _) (Nat.le_of_lt_succ this)
      have hb1 : i + x < 1114112 * (cur.length + 1) := (Nat.div_lt_iff_lt_mul (by omega)).1 (by omega)
      have hb : i + x < 1114112 * 251 := Nat.lt_of_lt_of_le hb1 (Nat.mul_le_mul_left _ (by omega))
      omega
    · exact ih _ _ _ hs hl x hx
theorem penc_len {l : List Nat} (hs : ∀ x ∈ l, sc x = true) (hl : l.length ≤ 250) : (penc l).length ≤ 11 * l.length + 1 := by
  have hr := run_deltas hs
  have h1 := deltas_small (deltas l l.length 128 0 (basicOf l).length) (basicOf l) 128 0 (by rw [hr]; exact hs) (by rw [hr]; exact hl)
  have h2 := tells_len (basicOf l).length (deltas l l.length 128 0 (basicOf l).length) 72 (basicOf l).length h1
  have h3 := runD_length (deltas l l.length 128 0 (basicOf l).length) (basicOf l) 128 0
  rw [hr] at h3
  have h4 : (basicOf l).length ≤ l.length := List.length_filter_le _ _
  unfold penc
  rw [List.length_append, List.length_append, List.length_map]
  split <;> simp only [List.length_nil, List.length_cons] <;> omega
theorem pdec_length {s : List UInt8} {l : List Nat} (h : pdec s = some l) : l.length ≤ s.length := by
  have main : ∀ (f : Nat) (t : List UInt8) (cur : List Nat), (∀ x ∈ cur, x < 128) → decT f t cur 128 0 72 = some l → l.length ≤ cur.length + t.length := by
    intro f t cur hcur hd
    obtain ⟨ds, h1, h2, _⟩ := tells_decT cur.length f t cur 128 0 72 l hd (.inl ⟨rfl, rfl⟩) (fun x hx => sc_small (hcur x hx))
    have h3 := dtells_length cur.length ds 72 cur.length
    rw [← h1, List.length_map] at h3
    rw [← h2, runD_length]
    omega
  unfold pdec at h
  split at h
  · cases h
  · rename_i hany
    have hsm : ∀ b ∈ s, b.toNat < 128 := by
      intro b hb
      have := List.any_eq_false.1 (Bool.eq_false_iff.2 hany) b hb
      simp at this; omega
    split at h
    · have := main _ _ _ (fun x hx => by
        obtain ⟨y, hy, rfl⟩ := List.mem_map.1 hx
        exact hsm y (List.mem_of_mem_take hy)) h
      simp only [List.length_map, List.length_take, List.length_drop] at this
      omega
    · have := main _ _ _ (fun x hx => by cases hx) h
      simpa using this

/-- A list of numbers is scalars, as numbers; or not. -/
theorem ints_of {l : List Int} (h : ∀ c ∈ l, scal c = true) : l = ints (l.map Int.toNat) ∧ ∀ x ∈ l.map Int.toNat, sc x = true := by
  have hp : ∀ c ∈ l, ((c.toNat : Nat) : Int) = c := fun c hc => by have := (scal_iff c).1 (h c hc); omega
  refine ⟨?_, fun x hx => ?_⟩
  · unfold ints
    rw [List.map_map]
    exact ((List.map_congr_left (g := id) fun c hc => hp c hc).trans (List.map_id _)).symm
  · obtain ⟨c, hc, rfl⟩ := List.mem_map.1 hx
    rw [← sc_scal', hp c hc]
    exact h c hc

def EncOk (ln : List Nat) (w : World) (e : Ending) (w' : World) : Prop := e = .returned (.tuple #[.string ⟨(penc ln).toArray⟩, .nilIface]) ∧ Below w.heap.size w w'
def EncBad (w : World) (e : Ending) (w' : World) : Prop := ∃ cs u x, e = .returned (.tuple #[.string ⟨#[]⟩, .iface u x]) ∧ Chain w' cs (some 2) (.iface u x) ∧ Below w.heap.size w w'
def DecPostN (o : Option (List Nat)) (w : World) (e : Ending) (w' : World) : Prop := match o with
  | none => ∃ cs u x, e = .returned (.tuple #[.slice none 0 0, .iface u x]) ∧ Chain w' cs (some 2) (.iface u x) ∧ Below w.heap.size w w'
  | some l => ∃ A c, e = .returned (.tuple #[.slice A l.length c, .nilIface]) ∧ Runes w' A (ints l) ∧ l.length ≤ c ∧ Below w.heap.size w w'
/-- The program's Encode and Decode do as the document says. -/
structure PunyC : Prop where
  encOk : ∀ (A : Option Addr) (ln : List Nat) (cap : Nat) (w : World), Runes w A (ints ln) → (∀ c ∈ ln, sc c = true) → ln.length ≤ 250 → ln.length ≤ cap →
    Calls Tryd.prog 28 #[.slice A ln.length cap] w (EncOk ln w)
  encBad : ∀ (A : Option Addr) (l : List Int) (cap : Nat) (w : World), Runes w A l → (∀ c ∈ l, -2147483648 ≤ c ∧ c < 2147483648) → (¬ ∀ c ∈ l, scal c = true) → l.length ≤ 250 → l.length ≤ cap →
    Calls Tryd.prog 28 #[.slice A l.length cap] w (EncBad w)
  dec : ∀ (s : ByteArray) (w : World), s.size ≤ 3000 → Calls Tryd.prog 45 #[.string s] w (DecPostN (pdec s.data.toList) w)
end Go.Proofs.YtfaieldafoeaiaaDoor

/-
  The document's All of layer 6, by its contract.
-/
namespace Go.Proofs.YtfaieldafoeaiaaDoor
open Go.RowKit

theorem made_cap {w w' : World} {v : Value} {l : List Int} {A : Option Addr} {c : Nat} (h : Made w w' v l) (hv : v = .slice A l.length c) : (A = none ∧ l.length = 0 ∧ c = 0) ∨ (∃ g, A = some ⟨g, 0, none⟩) ∧ l.length ≤ c ∧ c ≤ 9223372036854775807 := by
  rcases h.1.2 with ⟨e, h0⟩ | ⟨g, cap, cur, e, _, _, h1, h2, _⟩
  · rw [hv] at e
    simp only [Value.slice.injEq] at e
    exact .inl ⟨e.1, e.2.1, e.2.2⟩
  · rw [hv] at e
    simp only [Value.slice.injEq] at e
    unfold maxLen at h2
    exact .inr ⟨⟨g, e.1⟩, by omega, by omega⟩
theorem lone_len {l : List Int} {x : List UInt8} (h : lone l = some x) (hl : l.length ≤ 250) : x.length ≤ 16 * (l.length + 1) := by
  by_cases hs : ∀ c ∈ l, scal c = true
  · have he := enc_length l
    by_cases hx : l.take 4 = xnI
    · rw [lone_xn hs hx] at h
      split at h
      · cases h; omega
      · cases h
    · cases hp : plainL l with
      | true => rw [lone_plain hs hx hp] at h; cases h; omega
      | false =>
        cases hm : markL l with
        | true => rw [lone_mark hs hx hp hm] at h; cases h
        | false =>
          rw [lone_puny hs hx hp hm] at h
          cases h
          have hsc6 : ∀ n ∈ l.map Int.toNat, sc n = true := fun n hn => by
            obtain ⟨c, hc, rfl⟩ := List.mem_map.1 hn
            have hcs := (scal_iff c).1 (hs c hc)
            rw [← sc_scal', show ((c.toNat : Nat) : Int) = c by omega]
            exact hs c hc
          have := penc_len6 hsc6 (by rw [List.length_map]; exact hl)
          rw [List.length_map] at this
          rw [List.length_append]
          simp [xnB]
          omega
  · rw [lone_bad hs] at h; cases h
theorem parts_cur {cur : List Int} (h : (46 : Int) ∉ cur) (r : List Int) : partsOf (cur ++ 46 :: r) = cur :: partsOf r := by rw [partsOf_append, partsOf_none h]; rfl
theorem mapOne_snoc {qs : List (List Int)} {xs : List (List UInt8)} {p : List Int} {x : List UInt8} (h : mapOne qs = some xs) (hx : lone p = some x) : mapOne (qs ++ [p]) = some (xs ++ [x]) := by
  rw [mapOne_append, h]
  simp only [mapOne, hx]
theorem mapOne_stop {qs : List (List Int)} {p : List Int} (r : List (List Int)) (hx : lone p = none) : mapOne (qs ++ p :: r) = none := by
  rw [mapOne_append]
  have : mapOne (p :: r) = none := by simp only [mapOne, hx]
  rw [this]
  cases mapOne qs <;> rfl
theorem joinB_snoc (xs : List (List UInt8)) (x : List UInt8) (h : xs ≠ []) : joinB (xs ++ [x]) = joinB xs ++ 46 :: x := by rw [joinB_append h (by simp)]; rfl

/-- Where the loop stands: parts that are told, and the part that is at hand. -/
structure AllAt (f : List Int) (from_ i : Nat) (bs : ByteArray) (qs : List (List Int)) (xs : List (List UInt8)) : Prop where
  told : mapOne qs = some xs
  out : bs.data.toList = joinB xs
  first : from_ = 0 ↔ xs = []
  le : from_ ≤ i
  len : bs.size ≤ 20 * from_
  rest : (i ≤ f.length ∧ partsOf f = qs ++ partsOf (f.drop from_) ∧ (46 : Int) ∉ (f.drop from_).take (i - from_)) ∨ (i = f.length + 1 ∧ from_ = f.length + 1 ∧ partsOf f = qs)
theorem AllAt.start (f : List Int) : AllAt f 0 0 ⟨#[]⟩ [] [] := ⟨rfl, rfl, by simp, Nat.le_refl _, Nat.le_refl 0, .inl ⟨Nat.zero_le _, rfl, by simp⟩⟩
theorem part_here {f : List Int} {from_ i : Nat} (hi : from_ ≤ i) (hlt : i < f.length) : (f.drop from_).take (i + 1 - from_) = (f.drop from_).take (i - from_) ++ [f[i]] := by
  rw [show i + 1 - from_ = i - from_ + 1 by omega, List.take_succ_eq_append_getElem (by rw [List.length_drop]; omega), List.getElem_drop]
  congr 2
  congr 1
  omega
theorem AllAt.step {f : List Int} {from_ i : Nat} {bs : ByteArray} {qs : List (List Int)} {xs : List (List UInt8)} (h : AllAt f from_ i bs qs xs) (hlt : i < f.length) (hc : f[i] ≠ 46) : AllAt f from_ (i + 1) bs qs xs := by
  refine ⟨h.told, h.out, h.first, by have := h.le; omega, h.len, ?_⟩
  rcases h.rest with ⟨h1, h2, h3⟩ | ⟨h1, _⟩
  · refine .inl ⟨by omega, h2, ?_⟩
    rw [part_here h.le hlt, List.mem_append, not_or]
    exact ⟨h3, by simpa using Ne.symm hc⟩
  · omega
/-- The part at hand is the next one. -/
theorem AllAt.next {f : List Int} {from_ i : Nat} {bs : ByteArray} {qs : List (List Int)} {xs : List (List UInt8)} (h : AllAt f from_ i bs qs xs) (hle : i ≤ f.length) (hc : i = f.length ∨ ∃ hlt : i < f.length, f[i] = 46) :
    ∃ r, partsOf f = qs ++ (f.drop from_).take (i - from_) :: r ∧ (i < f.length → r = partsOf (f.drop (i + 1))) ∧ (i = f.length → r = []) := by
  have hli := h.le
  rcases h.rest with ⟨h1, h2, h3⟩ | ⟨h1, _⟩
  · rcases hc with e | ⟨hlt, e⟩
    · refine ⟨[], ?_, fun h' => by omega, fun _ => rfl⟩
      have : (f.drop from_).take (i - from_) = f.drop from_ := List.take_of_length_le (by rw [List.length_drop]; omega)
      rw [this] at h3 ⊢
      rw [h2, partsOf_none h3]
    · refine ⟨partsOf (f.drop (i + 1)), ?_, fun _ => rfl, fun h' => by omega⟩
      have hsp : f.drop from_ = (f.drop from_).take (i - from_) ++ 46 :: f.drop (i + 1) := by
        conv => lhs; rw [← List.take_append_drop (i - from_) (f.drop from_)]
        rw [List.drop_drop, show from_ + (i - from_) = i by omega, List.drop_eq_getElem_cons hlt, e]
      rw [h2]
      conv => lhs; rw [hsp]
      rw [parts_cur h3]
  · omega
theorem AllAt.told_ {f : List Int} {from_ i : Nat} {bs b2 : ByteArray} {qs : List (List Int)} {xs : List (List UInt8)} {x : List UInt8} (h : AllAt f from_ i bs qs xs) (hle : i ≤ f.length) (hc : i = f.length ∨ ∃ hlt : i < f.length, f[i] = 46) (hx : lone ((f.drop from_).take (i - from_)) = some x) (hl : f.length ≤ 220)
    (hb : b2.data.toList = if from_ = 0 then bs.data.toList ++ x else bs.data.toList ++ 46 :: x) : AllAt f (i + 1) (i + 1) b2 (qs ++ [(f.drop from_).take (i - from_)]) (xs ++ [x]) := by
  have hli := h.le
  obtain ⟨r, hr, hr1, hr2⟩ := h.next hle hc
  have hlen := lone_len hx (by rw [List.length_take, List.length_drop]; omega)
  rw [List.length_take, List.length_drop] at hlen
  have hbs : bs.size = bs.data.toList.length := by simp
  have hb2 : b2.size = b2.data.toList.length := by simp
  have hl0 := h.len
  refine ⟨mapOne_snoc h.told hx, ?_, by simp, Nat.le_refl _, ?_, ?_⟩
  · rw [hb]
    by_cases e : from_ = 0
    · rw [if_pos e, h.out, (h.first.1 e)]; rfl
    · rw [if_neg e, h.out, joinB_snoc _ _ (fun e2 => e (h.first.2 e2))]
  · rw [hb2, hb]
    split
    · rw [List.length_append, ← hbs]; omega
    · rw [List.length_append, List.length_cons, ← hbs]; omega
  · by_cases e : i < f.length
    · refine .inl ⟨by omega, ?_, by simp⟩
      rw [hr, hr1 e, List.append_assoc]; rfl
    · refine .inr ⟨by omega, by omega, ?_⟩
      rw [hr, hr2 (by omega)]
theorem AllAt.stop {f : List Int} {from_ i : Nat} {bs : ByteArray} {qs : List (List Int)} {xs : List (List UInt8)} (h : AllAt f from_ i bs qs xs) (hle : i ≤ f.length) (hc : i = f.length ∨ ∃ hlt : i < f.length, f[i] = 46) (hx : lone ((f.drop from_).take (i - from_)) = none) : mapOne (partsOf f) = none := by
  obtain ⟨r, hr, _⟩ := h.next hle hc
  rw [hr, mapOne_stop _ hx]

def NamePost (r : Nat × List UInt8) (w : World) (e : Ending) (w' : World) : Prop := e = .returned (.tuple #[.string ⟨r.2.toArray⟩, .int .i64 r.1]) ∧ Below w.heap.size w w'

end Go.Proofs.YtfaieldafoeaiaaDoor

/-
  What the program's One and All of layer 6 are held against: their contracts, as hypotheses; the example.
-/
namespace Go.Proofs.YtfaieldafoeaiaaDoor
open Go.RowKit

/-- A text and no error; or an empty text and an error of this number. -/
def TextPost (n : Nat) (s : List UInt8) (w : World) (e : Ending) (w' : World) : Prop := match n with
  | 0 => e = .returned (.tuple #[.string ⟨s.toArray⟩, .nilIface]) ∧ Below w.heap.size w w'
  | n + 1 => ∃ cs u x, e = .returned (.tuple #[.string ⟨#[]⟩, .iface u x]) ∧ Chain w' cs (some ((n + 1 : Nat) : Int)) (.iface u x) ∧ Below w.heap.size w w'
def oneNo (o : Option (List UInt8)) : Nat := match o with
  | none => 2
  | some _ => 0
/-- The program's One and All do as the document says, in every world behind w0 (which holds the package's variables). -/
structure LabelC (w0 : World) : Prop where
  one : ∀ (A : Option Addr) (l : List Int) (cap : Nat) (w : World), Below w0.heap.size w0 w → (∀ c ∈ l, R32 c) → Runes w A l → l.length ≤ 60 → l.length ≤ cap ∧ (A = none → cap = 0) → Calls Tryd.prog 9 #[.slice A l.length cap] w (TextPost (oneNo (lone l)) ((lone l).getD []) w)
  all : ∀ (A : Option Addr) (l : List Int) (cap : Nat) (w : World), Below w0.heap.size w0 w → (∀ c ∈ l, R32 c) → Runes w A l → l.length ≤ 121 → l.length ≤ cap ∧ (A = none → cap = 0) → Calls Tryd.prog 6 #[.slice A l.length cap] w (TextPost (lall l).1 (lall l).2 w)
  low : ∀ (A : Option Addr) (l : List Int) (cap : Nat) (w : World), Below w0.heap.size w0 w → Runes w A l → (∀ c ∈ l, 0 ≤ c ∧ c < 128) → l.length ≤ 1400 → l.length ≤ cap ∧ (A = none → cap = 0) → Calls Tryd.prog 6 #[.slice A l.length cap] w (TextPost (lall l).1 (lall l).2 w)

theorem lone_len2 {l : List Int} {x : List UInt8} (h : lone l = some x) (hl : l.length ≤ 250) : x.length ≤ 11 * l.length + 5 := by
  by_cases hs : ∀ c ∈ l, scal c = true
  · have he := enc_length l
    by_cases hx : l.take 4 = xnI
    · rw [lone_xn hs hx] at h
      split at h
      · cases h; omega
      · cases h
    · cases hp : plainL l with
      | true => rw [lone_plain hs hx hp] at h; cases h; omega
      | false =>
        cases hm : markL l with
        | true => rw [lone_mark hs hx hp hm] at h; cases h
        | false =>
          rw [lone_puny hs hx hp hm] at h
          cases h
          have hsc6 : ∀ n ∈ l.map Int.toNat, sc n = true := fun n hn => by
            obtain ⟨c, hc, rfl⟩ := List.mem_map.1 hn
            have hcs := (scal_iff c).1 (hs c hc)
            rw [← sc_scal', show ((c.toNat : Nat) : Int) = c by omega]
            exact hs c hc
          have := penc_len6 hsc6 (by rw [List.length_map]; exact hl)
          rw [List.length_map] at this
          rw [List.length_append]
          simp [xnB]
          omega
  · rw [lone_bad hs] at h; cases h
def wid6 : List (List Int) → Nat
  | [] => 0
  | q :: qs => q.length + 1 + wid6 qs
theorem wid6_parts (l : List Int) : wid6 (partsOf l) = l.length + 1 := by
  induction l with
  | nil => rfl
  | cons c l ih =>
    unfold partsOf
    split
    · simp [wid6, ih]; omega
    · have hn := partsOf_ne l
      cases hp : partsOf l with
      | nil => exact absurd hp hn
      | cons p ps =>
        rw [hp] at ih
        simp only [wid6, List.length_cons] at ih ⊢
        omega
theorem join_len : ∀ (qs : List (List Int)) (xs : List (List UInt8)), mapOne qs = some xs → wid6 qs ≤ 250 → (joinB xs).length ≤ 11 * wid6 qs := by
  intro qs
  induction qs with
  | nil => intro xs h _; cases h; exact Nat.zero_le _
  | cons q qs ih =>
    intro xs h hw
    simp only [wid6] at hw ⊢
    unfold mapOne at h
    cases hq : lone q with
    | none => rw [hq] at h; cases h
    | some x =>
      have h1 := lone_len2 hq (by omega)
      cases hqs : mapOne qs with
      | none => rw [hq, hqs] at h; cases h
      | some ys =>
        rw [hq, hqs] at h
        cases h
        have h2 := ih ys hqs (by omega)
        cases ys with
        | nil => simp only [joinB]; omega
        | cons y ys =>
          simp only [joinB, List.length_append, List.length_cons] at h2 ⊢
          omega
theorem lall_len6 {l : List Int} {s : List UInt8} (h : lall l = (0, s)) (hl : l.length ≤ 60) : s.length ≤ 1400 := by
  unfold lall at h
  cases hf : foldL l with
  | none => rw [hf] at h; cases h
  | some f =>
    have hfl := fold_length hf
    rw [hf] at h
    cases hm : mapOne (partsOf f) with
    | none => simp only [hm] at h; cases h
    | some xs =>
      simp only [hm] at h
      have h1 := join_len _ xs hm (by rw [wid6_parts]; omega)
      rw [wid6_parts] at h1
      split at h
      · cases h
      · cases h; omega
theorem lall_a : lall [66, 220, 67, 104, 101, 114, 12290, 120] = (0, [120, 110, 45, 45, 98, 99, 104, 101, 114, 45, 107, 118, 97, 46, 120]) := by decide +kernel
theorem lall_b : lall [] = (3, []) := by decide +kernel
theorem lone_c : lone [769] = none := by decide +kernel
theorem lab_a {w0 : World} (C : LabelC w0) (w : World) (hw : Below w0.heap.size w0 w) : Calls Tryd.prog 6 #[.slice (some ⟨w.heap.size, 0, none⟩) 8 8] (w.alloc (.cells #[.int .i32 66, .int .i32 220, .int .i32 67, .int .i32 104, .int .i32 101, .int .i32 114, .int .i32 12290, .int .i32 120] 21)) fun e w' =>
    e = .returned (.tuple #[.string ⟨#[120, 110, 45, 45, 98, 99, 104, 101, 114, 45, 107, 118, 97, 46, 120]⟩, .nilIface]) ∧ Below w.heap.size w w' := by
  refine (C.all (some ⟨w.heap.size, 0, none⟩) [66, 220, 67, 104, 101, 114, 12290, 120] 8 _ (hw.alloc hw.size _) (by intro c hc; simp at hc; unfold R32; omega) (runes_new w [66, 220, 67, 104, 101, 114, 12290, 120] 21) (by decide) ⟨by decide, fun e => by cases e⟩).mono ?_
  intro e w' h
  rw [lall_a] at h
  obtain ⟨rfl, hb⟩ := h
  exact ⟨rfl, bnext ((Below.refl _ _).alloc (Nat.le_refl _) _) hb⟩
theorem lab_b {w0 : World} (C : LabelC w0) (w : World) (hw : Below w0.heap.size w0 w) : Calls Tryd.prog 6 #[.slice none 0 0] w fun e w' =>
    ∃ cs u x, e = .returned (.tuple #[.string ⟨#[]⟩, .iface u x]) ∧ Chain w' cs (some 3) (.iface u x) ∧ Below w.heap.size w w' := by
  have := C.all none [] 0 w hw (by simp) Runes.nil_ (by decide) ⟨by decide, fun _ => rfl⟩
  rw [lall_b] at this
  exact this
theorem lab_c {w0 : World} (C : LabelC w0) (w : World) (hw : Below w0.heap.size w0 w) : Calls Tryd.prog 9 #[.slice (some ⟨w.heap.size, 0, none⟩) 1 1] (w.alloc (.cells #[.int .i32 769] 21)) fun e w' =>
    ∃ cs u x, e = .returned (.tuple #[.string ⟨#[]⟩, .iface u x]) ∧ Chain w' cs (some 2) (.iface u x) ∧ Below w.heap.size w w' := by
  refine (C.one (some ⟨w.heap.size, 0, none⟩) [769] 1 _ (hw.alloc hw.size _) (by intro c hc; simp at hc; unfold R32; omega) (runes_new w [769] 21) (by decide) ⟨by decide, fun e => by cases e⟩).mono ?_
  intro e w' h
  rw [lone_c] at h
  obtain ⟨cs, u, x, rfl, hc, hb⟩ := h
  exact ⟨cs, u, x, rfl, hc, bnext ((Below.refl _ _).alloc (Nat.le_refl _) _) hb⟩

set_option maxHeartbeats 1000000 in
set_option maxRecDepth 100000 in
theorem awake6 {w : World} (C : LabelC w) : Calls Tryd.prog 5 #[] w (Yes w) := by
  have HC := Lib.hid C
  clear C
  go_enter Tryd.func5, Tryd.ntmps5
  go_wp2_with (first
    | (go_at_call 6; (with_reducible refine (lab_a HC.out _ (Below.refl _ _)).mono ?_); rintro e w1 ⟨rfl, hb⟩; have HB := Lib.hid hb; clear hb)
    | (go_at_call 6; (with_reducible refine (lab_b HC.out _ HB.out).mono ?_); rintro e w2 ⟨cs2, u2, x2, rfl, hch, hb⟩; have HC2 := Lib.hid hch; have HB := Lib.hid (bnext HB.out hb); clear hb hch)
    | (go_at_call 9; (with_reducible refine (lab_c HC.out _ HB.out).mono ?_); rintro e w3 ⟨cs3, u3, x3, rfl, hch, hb⟩; have HC3 := Lib.hid hch; have HC2 := Lib.hid (HC2.out.below hb); have HB := Lib.hid (bnext HB.out hb); clear hb hch)
    | (go_at_call 10; (with_reducible refine (is_any _ 3 3 u2 x2 _ HC2.out).mono ?_); rintro e w' ⟨rfl, rfl⟩)
    | (go_at_call 10; (with_reducible refine (is_any _ 2 2 u3 x3 _ HC3.out).mono ?_); rintro e w' ⟨rfl, rfl⟩))
  go_ret
  exact ⟨rfl, HB.out⟩
end Go.Proofs.YtfaieldafoeaiaaDoor

/-
  check of package label: the error of Punycode that stands for no part.
-/
namespace Go.Proofs.YtfaieldafoeaiaaDoor
open Go.RowKit

/-- No error; or an error of number 2. -/
def CheckPost (ok : Bool) (w : World) (e : Ending) (w' : World) : Prop := match ok with
  | true => e = .returned .nilIface ∧ Below w.heap.size w w'
  | false => ∃ cs u x, e = .returned (.iface u x) ∧ Chain w' cs (some 2) (.iface u x) ∧ Below w.heap.size w w'

theorem zs_R32 {l : List Nat} (h : ∀ n ∈ l, sc n = true) : ∀ c ∈ ints l, R32 c := by
  intro c hc
  obtain ⟨n, hn, rfl⟩ := List.mem_map.1 hc
  have := sc_lt (h n hn)
  unfold R32
  omega
theorem okDec_no {s : List UInt8} (h : pdec s = none) : okDec s = false := by unfold okDec; rw [h]
theorem okDec_some {s : List UInt8} {l : List Nat} (h : pdec s = some l) : okDec s = (!(plainL (ints l)) && !(markL (ints l)) && decide (foldL (ints l) = some (ints l))) := by unfold okDec; rw [h]; rfl

set_option maxHeartbeats 2000000 in
set_option maxRecDepth 100000 in
theorem check_any (PC : PunyC) (s : ByteArray) (w : World) (hv : Vars w) (hs : s.size ≤ 1400) :
    Calls Tryd.prog 27 #[.string s] w (CheckPost (okDec s.data.toList) w) := by
  have HV := Lib.hid hv
  have HDc := Lib.hid (PC.dec s w (by omega))
  clear hv PC
  cases hp : pdec s.data.toList with
  | none =>
    rw [okDec_no hp]
    rw [hp] at HDc
    clear hp
    go_enter Tryd.func27, Tryd.ntmps27
    go_wp2_with (first
      | (go_at_call 45; refine HDc.out.mono ?_; rintro e w1 ⟨cs, u, x, rfl, hch, hb⟩; have HCh := Lib.hid hch; have HB := Lib.hid hb; clear hch hb)
      | (go_at_call 12; refine (wrap6_any cs 2 u x _ HCh.out).mono ?_; rintro e w2 ⟨cs2, u2, x2, rfl, hch, hb⟩; have HCh2 := Lib.hid hch; have HB2 := Lib.hid hb; clear hch hb))
    go_ret
    exact ⟨cs2, u2, x2, rfl, HCh2.out, bnext HB.out HB2.out⟩
  | some l =>
    rw [okDec_some hp]
    rw [hp] at HDc
    have hll := pdec_length hp
    have hln : (ints l).length ≤ 1400 := by
      rw [ints_length]
      simp at hll
      omega
    have HSc := Lib.hid (zs_R32 (penc_pdec hp).2)
    have HIL := Lib.hid (ints_length l)
    clear hp hll
    obtain ⟨L, hL⟩ : ∃ L, ints l = L := ⟨_, rfl⟩
    have HLL := Lib.hid (show l.length = L.length by rw [← hL, ints_length])
    have HDc2 : Hid (Calls Tryd.prog 45 #[.string s] w fun e w' => ∃ A c, e = .returned (.tuple #[.slice A L.length c, .nilIface]) ∧ Runes w' A L ∧ Below w.heap.size w w') := by
      refine HDc.out.mono ?_
      rintro e w' ⟨A, c, rfl, hr, _, hb⟩
      exact ⟨A, c, by rw [HLL.out], by rw [← hL]; exact hr, hb⟩
    rw [hL] at hln HSc ⊢
    clear hL HDc HIL HLL
    have hln2 : L.length ≤ 100000 := by omega
    cases hf : foldL L with
    | none =>
      have HOk : Hid ((!(plainL L) && !(markL L) && decide (none = some L)) = false) := by
        show _ = false
        simp
      rw [HOk.out]
      have HFo : Hid (∀ A c w1, Below w.heap.size w w1 → Runes w1 A L → Calls Tryd.prog 11 #[.slice A L.length c] w1 (FoldPost none w1)) := by
        intro A c w1 hb h1
        have := fold_p A L c w1 (HV.out.below hb) HSc.out h1 hln
        rwa [hf] at this
      clear hf
      go_enter Tryd.func27, Tryd.ntmps27
      go_wp2_with (first
        | (go_at_call 45; refine HDc2.out.mono ?_; rintro e w1 ⟨A, c, rfl, hr, hb⟩; have HR := Lib.hid hr; have HB := Lib.hid hb; clear hr hb)
        | (go_at_call 11; refine (HFo.out A c _ HB.out HR.out).mono ?_; rintro e w2 ⟨cs, u, x, rfl, _, hb⟩; have HB := Lib.hid (bnext HB.out hb); clear hb)
        | (go_at_call 12; refine (wrap6_any [] 2 _ _ _ rfl).mono ?_; rintro e w2 ⟨cs2, u2, x2, rfl, hch, hb⟩; have HCh2 := Lib.hid hch; have HB2 := Lib.hid hb; clear hch hb))
      go_ret
      exact ⟨cs2, u2, x2, rfl, HCh2.out, bnext HB.out HB2.out⟩
    | some f =>
      have hfl := fold_length hf
      have HFo : Hid (∀ A c w1, Below w.heap.size w w1 → Runes w1 A L → Calls Tryd.prog 11 #[.slice A L.length c] w1 (FoldPost (some f) w1)) := by
        intro A c w1 hb h1
        have := fold_p A L c w1 (HV.out.below hb) HSc.out h1 hln
        rwa [hf] at this
      clear hf
      have HEq : Hid (decide (some f = some L) = same f L) := by
        show decide (some f = some L) = same f L
        unfold same
        simp
      rw [HEq.out]
      cases hpl : plainL L with
      | true =>
        have HPl := Lib.hid hpl
        clear hpl
        go_enter Tryd.func27, Tryd.ntmps27
        go_wp2_with (first
          | (go_at_call 45; refine HDc2.out.mono ?_; rintro e w1 ⟨A, c, rfl, hr, hb⟩; have HR := Lib.hid hr; have HB := Lib.hid hb; clear hr hb)
          | (go_at_call 11; refine (HFo.out A c _ HB.out HR.out).mono ?_; rintro e w2 ⟨A2, c2, rfl, hr, _, hb⟩; have HR2 := Lib.hid hr; have HR := Lib.hid (HR.out.below hb); have HB := Lib.hid (bnext HB.out hb); clear hr hb)
          | (go_at_call 23; refine (ascii_any A L c _ HR.out hln2).mono ?_; rintro e w' ⟨rfl, rfl⟩; rw [HPl.out])
          | (go_at_call 12; refine (wrap6_any [] 2 _ _ _ rfl).mono ?_; rintro e w2 ⟨cs2, u2, x2, rfl, hch, hb⟩; have HCh2 := Lib.hid hch; have HB2 := Lib.hid hb; clear hch hb))
        go_ret
        exact ⟨cs2, u2, x2, rfl, HCh2.out, bnext HB.out HB2.out⟩
      | false =>
        have HPl := Lib.hid hpl
        clear hpl
        cases hmk : markL L with
        | true =>
          have HMk := Lib.hid hmk
          clear hmk
          go_enter Tryd.func27, Tryd.ntmps27
          go_wp2_with (first
            | (go_at_call 45; refine HDc2.out.mono ?_; rintro e w1 ⟨A, c, rfl, hr, hb⟩; have HR := Lib.hid hr; have HB := Lib.hid hb; clear hr hb)
            | (go_at_call 11; refine (HFo.out A c _ HB.out HR.out).mono ?_; rintro e w2 ⟨A2, c2, rfl, hr, _, hb⟩; have HR2 := Lib.hid hr; have HR := Lib.hid (HR.out.below hb); have HB := Lib.hid (bnext HB.out hb); clear hr hb)
            | (go_at_call 23; refine (ascii_any A L c _ HR.out hln2).mono ?_; rintro e w' ⟨rfl, rfl⟩; rw [HPl.out])
            | (go_at_call 26; refine (markFirst_any A L c _ HR.out hln2).mono ?_; rintro e w' ⟨rfl, rfl⟩; rw [HMk.out])
            | (go_at_call 12; refine (wrap6_any [] 2 _ _ _ rfl).mono ?_; rintro e w2 ⟨cs2, u2, x2, rfl, hch, hb⟩; have HCh2 := Lib.hid hch; have HB2 := Lib.hid hb; clear hch hb))
          go_ret
          exact ⟨cs2, u2, x2, rfl, HCh2.out, bnext HB.out HB2.out⟩
        | false =>
          have HMk := Lib.hid hmk
          clear hmk
          cases hsm : same f L with
          | true =>
            have HSm := Lib.hid hsm
            clear hsm
            go_enter Tryd.func27, Tryd.ntmps27
            go_wp2_with (first
              | (go_at_call 45; refine HDc2.out.mono ?_; rintro e w1 ⟨A, c, rfl, hr, hb⟩; have HR := Lib.hid hr; have HB := Lib.hid hb; clear hr hb)
              | (go_at_call 11; refine (HFo.out A c _ HB.out HR.out).mono ?_; rintro e w2 ⟨A2, c2, rfl, hr, _, hb⟩; have HR2 := Lib.hid hr; have HR := Lib.hid (HR.out.below hb); have HB := Lib.hid (bnext HB.out hb); clear hr hb)
              | (go_at_call 23; refine (ascii_any A L c _ HR.out hln2).mono ?_; rintro e w' ⟨rfl, rfl⟩; rw [HPl.out])
              | (go_at_call 26; refine (markFirst_any A L c _ HR.out hln2).mono ?_; rintro e w' ⟨rfl, rfl⟩; rw [HMk.out])
              | (go_at_call 46; refine (equal_any A2 A f L c2 c _ HR2.out HR.out (by omega)).mono ?_; rintro e w3 ⟨rfl, hn⟩; rw [HSm.out]; have HN := Lib.hid hn; clear hn))
            go_ret
            refine ⟨rfl, ?_⟩
            obtain ⟨n, hn⟩ := HN.out
            rw [hn]
            exact below_drewN HB.out n
          | false =>
            have HSm := Lib.hid hsm
            clear hsm
            go_enter Tryd.func27, Tryd.ntmps27
            go_wp2_with (first
              | (go_at_call 45; refine HDc2.out.mono ?_; rintro e w1 ⟨A, c, rfl, hr, hb⟩; have HR := Lib.hid hr; have HB := Lib.hid hb; clear hr hb)
              | (go_at_call 11; refine (HFo.out A c _ HB.out HR.out).mono ?_; rintro e w2 ⟨A2, c2, rfl, hr, _, hb⟩; have HR2 := Lib.hid hr; have HR := Lib.hid (HR.out.below hb); have HB := Lib.hid (bnext HB.out hb); clear hr hb)
              | (go_at_call 23; refine (ascii_any A L c _ HR.out hln2).mono ?_; rintro e w' ⟨rfl, rfl⟩; rw [HPl.out])
              | (go_at_call 26; refine (markFirst_any A L c _ HR.out hln2).mono ?_; rintro e w' ⟨rfl, rfl⟩; rw [HMk.out])
              | (go_at_call 46; refine (equal_any A2 A f L c2 c _ HR2.out HR.out (by omega)).mono ?_; rintro e w3 ⟨rfl, hn⟩; rw [HSm.out]; have HN := Lib.hid hn; clear hn)
              | (go_at_call 12; refine (wrap6_any [] 2 _ _ _ rfl).mono ?_; rintro e w4 ⟨cs2, u2, x2, rfl, hch, hb⟩; have HCh2 := Lib.hid hch; have HB2 := Lib.hid hb; clear hch hb))
            go_ret
            refine ⟨cs2, u2, x2, rfl, HCh2.out, ?_⟩
            obtain ⟨n, hn⟩ := HN.out
            exact bnext (by rw [hn]; exact below_drewN HB.out n) HB2.out
end Go.Proofs.YtfaieldafoeaiaaDoor

/-
  One of package label does as the document says.
-/
namespace Go.Proofs.YtfaieldafoeaiaaDoor
open Go.RowKit

/-- Numbers that One is asked: few, or all below 128. -/
def Fit (l : List Int) : Prop := (∀ c ∈ l, R32 c) ∧ (l.length ≤ 250 ∨ (plainL l = true ∧ l.length ≤ 1400))
theorem Fit.len {l : List Int} (h : Fit l) : l.length ≤ 1400 := by rcases h.2 with h | h <;> omega
theorem plain_sub {l m : List Int} (h : plainL l = true) (hs : ∀ c ∈ m, c ∈ l) : plainL m = true := by
  unfold plainL at h ⊢
  rw [List.all_eq_true] at h ⊢
  exact fun c hc => h c (hs c hc)
theorem Fit.sub {l m : List Int} (h : Fit l) (hs : ∀ c ∈ m, c ∈ l) (hl : m.length ≤ l.length) : Fit m := by
  refine ⟨fun c hc => h.1 c (hs c hc), ?_⟩
  rcases h.2 with h' | ⟨h1, h2⟩
  · exact .inl (by omega)
  · exact .inr ⟨plain_sub h1 hs, by omega⟩
theorem any_noS {l : List Int} (h : ∀ c ∈ l, scal c = true) : l.any noS = false := by
  rw [List.any_eq_false]
  intro c hc
  unfold noS
  rw [h c hc]
  simp
theorem any_noS_not {l : List Int} (h : ¬ ∀ c ∈ l, scal c = true) : l.any noS = true := by
  cases ha : l.any noS with
  | true => rfl
  | false =>
    rw [List.any_eq_false] at ha
    refine absurd (fun c hc => ?_) h
    have := ha c hc
    unfold noS at this
    simpa using this
theorem plain_mark {l : List Int} (h : plainL l = true) : markL l = false := by
  cases l with
  | nil => rfl
  | cons c l =>
    unfold plainL at h
    rw [List.all_cons, Bool.and_eq_true, decide_eq_true_eq] at h
    show (decide (768 ≤ c) && decide (c ≤ 879)) = false
    rw [Bool.and_eq_false_iff]
    left
    simp
    omega
theorem enc_plain_len {l : List Int} (hs : ∀ c ∈ l, scal c = true) (h : plainL l = true) : (enc l).length = l.length := by
  unfold plainL at h
  rw [List.all_eq_true] at h
  rw [enc_plain (fun c hc => ((scal_iff c).1 (hs c hc)).1) (fun c hc => by simpa using h c hc), List.length_map]
theorem text_two {s : List UInt8} {w : World} {e : Ending} {w' : World} {cs : List ByteArray} {u : TypeId} {x : Value} (he : e = .returned (.tuple #[.string ⟨#[]⟩, .iface u x])) (hc : Chain w' cs (some 2) (.iface u x)) (hb : Below w.heap.size w w') : TextPost 2 s w e w' := ⟨cs, u, x, he, hc, hb⟩
theorem text_no {w : World} {e : Ending} {w' : World} {s : List UInt8} (he : e = .returned (.tuple #[.string ⟨s.toArray⟩, .nilIface])) (hb : Below w.heap.size w w') : TextPost 0 s w e w' := ⟨he, hb⟩

set_option maxHeartbeats 4000000 in
set_option maxRecDepth 100000 in
theorem one_p (PC : PunyC) (A : Option Addr) (l : List Int) (cap : Nat) (w : World) (hv : Vars w) (hr : Runes w A l) (hf : Fit l) (hcap : l.length ≤ cap) :
    Calls Tryd.prog 9 #[.slice A l.length cap] w (TextPost (oneNo (lone l)) ((lone l).getD []) w) := by
  have hln := hf.len
  have hln2 : l.length ≤ 100000 := by omega
  have hcv := convert_runes A l cap w hr
  have hel := enc_length l
  obtain ⟨st, hst⟩ : ∃ st, runesBytes l = st := ⟨_, rfl⟩
  have HST := Lib.hid (show st.data.toList = enc l by rw [← hst]; exact runes_bytes l)
  rw [hst] at hcv
  have hsz : st.size ≤ 10000 := by
    have h1 : st.size = (enc l).length := by rw [← HST.out]; simp
    omega
  clear hst hel
  have HR := Lib.hid hr
  have HV := Lib.hid hv
  have HF := Lib.hid hf
  have HPC := Lib.hid PC
  clear hr hv hf PC
  have HA := Lib.hid (ascii_any A l cap w HR.out hln2)
  have HN := Lib.hid (has_noS A l cap w HR.out hln2)
  have HM := Lib.hid (markFirst_any A l cap w HR.out hln2)
  by_cases hs : ∀ c ∈ l, scal c = true
  · rw [any_noS hs] at HN
    by_cases hx : l.take 4 = xnI
    · have HCut := Lib.hid (cutX_yes st w (by omega) (by rw [HST.out]; exact (xn_iff hs).1 hx))
      rw [lone_xn hs hx]
      have HSz4 : Hid ((st.extract 4 st.size).size = st.size - 4) := by show (st.extract 4 st.size).size = _; simp
      have HDt : Hid ((st.extract 4 st.size).data.toList = enc (l.drop 4)) := by
        show (st.extract 4 st.size).data.toList = _
        rw [extract_list, HST.out, xn_rest hx]
      clear hx
      cases hpl : plainL l with
      | false =>
        rw [hpl] at HA
        clear hpl hs
        go_enter Tryd.func9, Tryd.ntmps9
        go_wp2_with (first
          | (go_at_call 22; refine HCut.out.mono ?_; rintro e w' ⟨rfl, rfl⟩)
          | (go_at_call 23; refine HA.out.mono ?_; rintro e w' ⟨rfl, rfl⟩)
          | (go_at_call 24; refine HN.out.mono ?_; rintro e w' ⟨rfl, rfl⟩)
          | (go_at_call 26; refine HM.out.mono ?_; rintro e w' ⟨rfl, rfl⟩)
          | (go_at_call 12; refine (wrap6_any [] 2 _ _ _ rfl).mono ?_; rintro e w2 ⟨cs2, u2, x2, rfl, hch, hb⟩; have HCh2 := Lib.hid hch; have HB2 := Lib.hid hb; clear hch hb))
        go_ret2
        exact text_two rfl HCh2.out HB2.out
      | true =>
        rw [hpl] at HA
        rw [plain_mark hpl] at HM
        have hst2 : st.size ≤ 1400 := by
          have h1 : st.size = (enc l).length := by rw [← HST.out]; simp
          have h2 := enc_plain_len hs hpl
          omega
        clear hpl hs
        have HCk := Lib.hid (check_any HPC.out (st.extract 4 st.size) w HV.out (by rw [HSz4.out]; omega))
        rw [HDt.out] at HCk
        cases hok : okDec (enc (l.drop 4)) with
        | false =>
          rw [hok] at HCk
          clear hok
          go_enter Tryd.func9, Tryd.ntmps9
          go_wp2_with (first
            | (go_at_call 22; refine HCut.out.mono ?_; rintro e w' ⟨rfl, rfl⟩)
            | (go_at_call 23; refine HA.out.mono ?_; rintro e w' ⟨rfl, rfl⟩)
            | (go_at_call 24; refine HN.out.mono ?_; rintro e w' ⟨rfl, rfl⟩)
            | (go_at_call 26; refine HM.out.mono ?_; rintro e w' ⟨rfl, rfl⟩)
            | (go_at_call 27; refine HCk.out.mono ?_; rintro e w2 ⟨cs2, u2, x2, rfl, hch, hb⟩; have HCh2 := Lib.hid hch; have HB2 := Lib.hid hb; clear hch hb))
          go_ret2
          exact text_two rfl HCh2.out HB2.out
        | true =>
          rw [hok] at HCk
          clear hok
          go_enter Tryd.func9, Tryd.ntmps9
          go_wp2_with (first
            | (go_at_call 22; refine HCut.out.mono ?_; rintro e w' ⟨rfl, rfl⟩)
            | (go_at_call 23; refine HA.out.mono ?_; rintro e w' ⟨rfl, rfl⟩)
            | (go_at_call 24; refine HN.out.mono ?_; rintro e w' ⟨rfl, rfl⟩)
            | (go_at_call 26; refine HM.out.mono ?_; rintro e w' ⟨rfl, rfl⟩)
            | (go_at_call 27; refine HCk.out.mono ?_; rintro e w2 ⟨rfl, hb⟩; have HB2 := Lib.hid hb; clear hb))
          go_ret2
          exact text_no (s := enc l) (by rw [← HST.out]; rfl) HB2.out
    · have HCut := Lib.hid (cutX_no st w (by omega) (by rw [HST.out]; exact fun e => hx ((xn_iff hs).2 e)))
      cases hpl : plainL l with
      | true =>
        rw [lone_plain hs hx hpl]
        rw [hpl] at HA
        rw [plain_mark hpl] at HM
        clear hpl hs hx
        go_enter Tryd.func9, Tryd.ntmps9
        go_wp2_with (first
          | (go_at_call 22; refine HCut.out.mono ?_; rintro e w' ⟨rfl, rfl⟩)
          | (go_at_call 23; refine HA.out.mono ?_; rintro e w' ⟨rfl, rfl⟩)
          | (go_at_call 24; refine HN.out.mono ?_; rintro e w' ⟨rfl, rfl⟩)
          | (go_at_call 26; refine HM.out.mono ?_; rintro e w' ⟨rfl, rfl⟩))
        go_ret2
        exact text_no (s := enc l) (by rw [← HST.out]; rfl) (Below.refl _ _)
      | false =>
        have hl250 : l.length ≤ 250 := by
          rcases HF.out.2 with h | h
          · exact h
          · rw [hpl] at h; cases h.1
        rw [hpl] at HA
        cases hmk : markL l with
        | true =>
          rw [lone_mark hs hx hpl hmk]
          rw [hmk] at HM
          clear hpl hs hx hmk
          go_enter Tryd.func9, Tryd.ntmps9
          go_wp2_with (first
            | (go_at_call 22; refine HCut.out.mono ?_; rintro e w' ⟨rfl, rfl⟩)
            | (go_at_call 23; refine HA.out.mono ?_; rintro e w' ⟨rfl, rfl⟩)
            | (go_at_call 24; refine HN.out.mono ?_; rintro e w' ⟨rfl, rfl⟩)
            | (go_at_call 26; refine HM.out.mono ?_; rintro e w' ⟨rfl, rfl⟩)
            | (go_at_call 12; refine (wrap6_any [] 2 _ _ _ rfl).mono ?_; rintro e w2 ⟨cs2, u2, x2, rfl, hch, hb⟩; have HCh2 := Lib.hid hch; have HB2 := Lib.hid hb; clear hch hb))
          go_ret2
          exact text_two rfl HCh2.out HB2.out
        | false =>
          rw [lone_puny hs hx hpl hmk]
          rw [hmk] at HM
          obtain ⟨hz, hsc⟩ := ints_of hs
          obtain ⟨pt, hpt⟩ : ∃ pt : ByteArray, pt = ⟨(penc (l.map Int.toNat)).toArray⟩ := ⟨_, rfl⟩
          have hptb : pt.size ≤ 100000 := by
            have := penc_len hsc (by rw [List.length_map]; omega)
            rw [List.length_map] at this
            rw [hpt]
            show (penc (l.map Int.toNat)).toArray.size ≤ 100000
            simp
            omega
          have HEn : Hid (Calls Tryd.prog 28 #[.slice A l.length cap] w fun e w' => e = .returned (.tuple #[.string pt, .nilIface]) ∧ Below w.heap.size w w') := by
            have := HPC.out.encOk A (l.map Int.toNat) cap w (by rw [← hz]; exact HR.out) hsc (by rw [List.length_map]; exact hl250) (by rw [List.length_map]; exact hcap)
            rw [List.length_map] at this
            rw [hpt]
            exact this
          have HPt := Lib.hid hpt
          clear hpl hs hx hmk hz hsc hpt
          go_enter Tryd.func9, Tryd.ntmps9
          go_wp2_with (first
            | (go_at_call 22; refine HCut.out.mono ?_; rintro e w' ⟨rfl, rfl⟩)
            | (go_at_call 23; refine HA.out.mono ?_; rintro e w' ⟨rfl, rfl⟩)
            | (go_at_call 24; refine HN.out.mono ?_; rintro e w' ⟨rfl, rfl⟩)
            | (go_at_call 26; refine HM.out.mono ?_; rintro e w' ⟨rfl, rfl⟩)
            | (go_at_call 28; refine HEn.out.mono ?_; rintro e w2 ⟨rfl, hb⟩; have HB2 := Lib.hid hb; clear hb))
          go_ret2
          refine text_no (s := xnB ++ penc (l.map Int.toNat)) ?_ HB2.out
          have hcat := HPt.out
          first | rfl | (simp [xnB]; done) | (rw [hcat]; rfl)
  · rw [any_noS_not hs] at HN
    rw [lone_bad hs]
    clear hs
    by_cases hx : st.data.toList.take 4 = xnB
    · have HCut := Lib.hid (cutX_yes st w (by omega) hx)
      clear hx
      go_enter Tryd.func9, Tryd.ntmps9
      go_wp2_with (first
        | (go_at_call 22; refine HCut.out.mono ?_; rintro e w' ⟨rfl, rfl⟩)
        | (go_at_call 23; refine HA.out.mono ?_; rintro e w' ⟨rfl, rfl⟩)
        | (go_at_call 24; refine HN.out.mono ?_; rintro e w' ⟨rfl, rfl⟩)
        | (go_at_call 12; refine (wrap6_any [] 2 _ _ _ rfl).mono ?_; rintro e w2 ⟨cs2, u2, x2, rfl, hch, hb⟩; have HCh2 := Lib.hid hch; have HB2 := Lib.hid hb; clear hch hb))
      go_ret2
      exact text_two rfl HCh2.out HB2.out
    · have HCut := Lib.hid (cutX_no st w (by omega) hx)
      clear hx
      go_enter Tryd.func9, Tryd.ntmps9
      go_wp2_with (first
        | (go_at_call 22; refine HCut.out.mono ?_; rintro e w' ⟨rfl, rfl⟩)
        | (go_at_call 23; refine HA.out.mono ?_; rintro e w' ⟨rfl, rfl⟩)
        | (go_at_call 24; refine HN.out.mono ?_; rintro e w' ⟨rfl, rfl⟩)
        | (go_at_call 12; refine (wrap6_any [] 2 _ _ _ rfl).mono ?_; rintro e w2 ⟨cs2, u2, x2, rfl, hch, hb⟩; have HCh2 := Lib.hid hch; have HB2 := Lib.hid hb; clear hch hb))
      go_ret2
      exact text_two rfl HCh2.out HB2.out
end Go.Proofs.YtfaieldafoeaiaaDoor

/-
  strings.Builder inside a round of a range over a function: what is no cells lies as it lay.
-/
namespace Go.Proofs.YtfaieldafoeaiaaDoor
open Go.RowKit Go.Shelf

theorem keeps_below {W W' : World} (h : Below W.heap.size W W') : KeepsOthers W W' := ⟨h.size, fun k _ hk _ => (h.block k (Array.getElem?_eq_some_iff.1 hk).1).trans hk⟩
theorem copyCheck_k (B b : Nat) (bs : List Value) (w : World) (h : Lib.IsBuilder 40 5 B b bs w) :
    Calls Tryd.prog 37 #[.pointer (some ⟨b, 0, none⟩)] w fun e w' => e = .returned (.tuple #[]) ∧ (Lib.BuilderAt 40 5 B b (.pointer (some ⟨b, 0, none⟩)) bs w' ∧ Below B w w' ∧ KeepsOthers w w') := by
  rcases h with h | h
  · refine (copyCheck_fresh b w h.cell0 h.shape h.frozen0).mono ?_
    rintro e w' ⟨rfl, rfl⟩
    exact ⟨rfl, h.used _, (Below.refl B w).setCell (p := ⟨b, 0, none⟩) h.1 _, KeepsOthers.setCell _ _ _⟩
  · refine (copyCheck_used b w h.cell0).mono ?_
    rintro e w' ⟨rfl, rfl⟩
    exact ⟨rfl, h, Below.refl B _, KeepsOthers.refl _⟩
theorem row_cells {w : World} {base : Nat} {e : TypeId} {size : Nat} {v : Value} {n : Nat} {xs : List Value} (h : w.ownsRow base e size v n xs) : ∀ (j : Nat) (o : Obj), v.ownBlock = some j → w.heap[j]? = some o → o.isCells = true := by
  intro j o ej hj
  rcases h.2 with ⟨rfl, _⟩ | ⟨g, cap, cur, rfl, _, hgb, _⟩
  · simp [Value.ownBlock] at ej
  · obtain rfl : g = j := by simpa [Value.ownBlock] using ej
    rw [hgb] at hj; cases hj; rfl

set_option maxHeartbeats 1000000 in
set_option maxRecDepth 100000 in
/-- WriteString. -/
theorem bldk_text (B b : Nat) (l : List UInt8) (s : ByteArray) (w : World) (h : Bld B b l w) (hlen : l.length + s.size ≤ 100000000) (hBw : B ≤ w.heap.size) :
    Calls Tryd.prog 15 #[.pointer (some ⟨b, 0, none⟩), .string s] w fun e w' => e = .returned (.tuple #[.int .i64 s.size, .nilIface]) ∧ (Bld B b (l ++ s.data.toList) w' ∧ Below B w w' ∧ KeepsOthers w w') := by
  obtain ⟨bs, hbs⟩ : ∃ bs, Lib.byteCells l = bs := ⟨_, rfl⟩
  have hlen2 : bs.length + s.size ≤ 100000000 := by rw [← hbs, byteCells_length]; exact hlen
  have HBs : Hid (Lib.byteCells (l ++ s.data.toList) = bs ++ Lib.strCells s) := by
    show Lib.byteCells (l ++ s.data.toList) = bs ++ Lib.strCells s
    rw [byteCells_append, hbs]; rfl
  unfold Bld at h ⊢
  rw [HBs.out]
  rw [hbs] at h
  clear hbs hlen
  obtain ⟨i0, hi, hz0, hz1, hz2⟩ := info_parts bldExtra.infoByte
  go_enter Tryd.func15, Tryd.ntmps15
  go_wp2_with (go_at_call 37; refine (copyCheck_k B b bs _ h).mono ?_)
  rintro e w1 ⟨rfl, h1, hb1, hk1⟩
  obtain ⟨hB, v, hbk, hown, hne⟩ := h1
  have c0 : w1.cell? ⟨b, 0, none⟩ = some (.pointer (some ⟨b, 0, none⟩)) := by rw [Lib.cell_of_heap hbk]; rfl
  have c1 : w1.cell? ⟨b, 1, none⟩ = some v := by rw [Lib.cell_of_heap hbk]; rfl
  go_wp2_with (at_builtin; refine Lib.wpList_append_own_string _ rfl _ _ 38 9 rfl B 5 i0 Tryd.underlying38 Tryd.underlying9 hi hz0 hz1 hz2 _ _ _ rfl hown s rfl ?c3 ?c4 ?c5 ?_)
  case c3 => unfold maxLen; omega
  case c4 => omega
  case c5 => have := hb1.size; omega
  intro v' w2 hown' hgrow _
  have hlt : b < w1.heap.size := by
    rcases Nat.lt_or_ge b w1.heap.size with h' | h'
    · exact h'
    · simp [Array.getElem?_eq_none h'] at hbk
  have hb2 : w2.heap[b]? = some (.cells #[.pointer (some ⟨b, 0, none⟩), v] 40 (0, 0)) := by
    rw [hgrow.block b hlt (fun e => hne e.symm)]
    exact hbk
  have d0 : w2.cell? ⟨b, 0, none⟩ = some (.pointer (some ⟨b, 0, none⟩)) := by rw [Lib.cell_of_heap hb2]; rfl
  have d1 : w2.cell? ⟨b, 1, none⟩ = some v := by rw [Lib.cell_of_heap hb2]; rfl
  have f1 : w2.frozen? ⟨b, 1, none⟩ = false := Lib.frozen_of_heap hb2 1
  have HK := Lib.hid (hk1.trans (KeepsOthers.of_grownBy hgrow (row_cells hown)))
  obtain ⟨ao, n', cap, rfl⟩ : ∃ ao n' cap, v' = .slice ao n' cap := by
    rcases hown'.2 with ⟨hv, _⟩ | ⟨g, cap, cur, hv, _⟩
    · exact ⟨_, _, _, hv⟩
    · exact ⟨_, _, _, hv⟩
  go_wp2
  go_ret2
  refine ⟨rfl, .inr ?_, ?_, HK.out.trans (KeepsOthers.setCell _ _ _)⟩
  · exact Lib.BuilderAt.put (T := 40) (e := 5) hB hb2 (bs' := bs ++ Lib.strCells s) (by simpa [Lib.strCells_length] using hown') (by decide)
  · exact (hb1.grown hgrow (by have := hb1.size; omega) (fun k hk => (hown.lt k hk).1)).setCell (p := ⟨b, 1, none⟩) hB _

set_option maxHeartbeats 1000000 in
set_option maxRecDepth 100000 in
/-- WriteByte. -/
theorem bldk_byte (B b : Nat) (l : List UInt8) (c : UInt8) (x : Int) (w : World) (h : Bld B b l w) (hx : x = (c.toNat : Int)) (hlen : l.length + 1 ≤ 100000000) (hBw : B ≤ w.heap.size) :
    Calls Tryd.prog 14 #[.pointer (some ⟨b, 0, none⟩), .int .u8 x] w fun e w' => e = .returned .nilIface ∧ (Bld B b (l ++ [c]) w' ∧ Below B w w' ∧ KeepsOthers w w') := by
  obtain ⟨bs, hbs⟩ : ∃ bs, Lib.byteCells l = bs := ⟨_, rfl⟩
  have hlen2 : bs.length + 1 ≤ 100000000 := by rw [← hbs, byteCells_length]; exact hlen
  have HBs : Hid (Lib.byteCells (l ++ [c]) = bs ++ [.int .u8 x]) := by
    show Lib.byteCells (l ++ [c]) = bs ++ [.int .u8 x]
    rw [byteCells_append, hbs, hx]; rfl
  unfold Bld at h ⊢
  rw [HBs.out]
  rw [hbs] at h
  clear hbs hlen hx
  obtain ⟨i0, hi, hz0, hz1, hz2⟩ := info_parts bldExtra.infoByte
  go_enter Tryd.func14, Tryd.ntmps14
  go_wp2_with (go_at_call 37; refine (copyCheck_k B b bs _ h).mono ?_)
  rintro e w1 ⟨rfl, h1, hb1, hk1⟩
  obtain ⟨hB, v, hbk, hown, hne⟩ := h1
  have c0 : w1.cell? ⟨b, 0, none⟩ = some (.pointer (some ⟨b, 0, none⟩)) := by rw [Lib.cell_of_heap hbk]; rfl
  have c1 : w1.cell? ⟨b, 1, none⟩ = some v := by rw [Lib.cell_of_heap hbk]; rfl
  go_wp2_with (at_builtin; refine wpList_append_own _ rfl _ _ 38 rfl B 5 i0 (.int .u8 0) 1 1 Tryd.underlying38 hi hz0 hz1 hz2 rfl (by decide) _ _ _ rfl (hown.alloc _) ⟨w1.heap.size, 0, none⟩ 1 1 [.int .u8 x] rfl rfl ?c1 ?c2 ?c3 ?c4 ?c5 ?_)
  case c1 =>
    intro j u hj
    match j, hj with
    | 0, hj => simp at hj; subst hj; simp [Addr.add]
  case c2 => intro u hu; simp at hu; subst hu; rfl
  case c3 => unfold maxLen; omega
  case c4 => omega
  case c5 => have := hb1.size; simp; omega
  intro v' w2 hown' hgrow _
  have hlt : b < w1.heap.size := by
    rcases Nat.lt_or_ge b w1.heap.size with h' | h'
    · exact h'
    · simp [Array.getElem?_eq_none h'] at hbk
  have hb2 : w2.heap[b]? = some (.cells #[.pointer (some ⟨b, 0, none⟩), v] 40 (0, 0)) := by
    rw [hgrow.block b (by simp; omega) (fun e => hne e.symm), Lib.alloc_old w1 _ b hlt]
    exact hbk
  have d0 : w2.cell? ⟨b, 0, none⟩ = some (.pointer (some ⟨b, 0, none⟩)) := by rw [Lib.cell_of_heap hb2]; rfl
  have d1 : w2.cell? ⟨b, 1, none⟩ = some v := by rw [Lib.cell_of_heap hb2]; rfl
  have f1 : w2.frozen? ⟨b, 1, none⟩ = false := Lib.frozen_of_heap hb2 1
  have HK := Lib.hid ((hk1.trans (KeepsOthers.alloc _ _)).trans (KeepsOthers.of_grownBy hgrow (row_cells (hown.alloc _))))
  obtain ⟨g, cap, rfl⟩ : ∃ g cap, v' = .slice (some ⟨g, 0, none⟩) (bs.length + 1) cap := by
    rcases hown'.2 with ⟨_, h0⟩ | ⟨g, cap, cur, hv, _⟩
    · omega
    · exact ⟨g, cap, hv⟩
  go_wp2
  go_ret
  refine ⟨rfl, .inr ?_, ?_, HK.out.trans (KeepsOthers.setCell _ _ _)⟩
  · exact Lib.BuilderAt.put (T := 40) (e := 5) hB hb2 (bs' := bs ++ [.int .u8 x]) (by simpa using hown') (by decide)
  · exact ((hb1.alloc (by have := hb1.size; omega) _).grown hgrow (by have := hb1.size; simp; omega) (fun k hk => (hown.lt k hk).1)).setCell (p := ⟨b, 1, none⟩) hB _

/-- String; a block that is no cells lies as it lay. -/
theorem bldk_done (B b : Nat) (l : List UInt8) (w : World) (h : Bld B b l w) (hBw : B ≤ w.heap.size) :
    Calls Tryd.prog 17 #[.pointer (some ⟨b, 0, none⟩)] w fun e w' => e = .returned (.string ⟨l.toArray⟩) ∧ Below B w w' ∧ (∀ (k : Nat) (o : Obj), w.heap[k]? = some o → o.isCells = false → w'.heap[k]? = some o) := by
  have hF : Lib.IsBuilderF 40 5 B b (Lib.byteCells l) w := h.elim (fun x => .inl (Lib.BuilderAtF.of x)) (fun x => .inr (Lib.BuilderAtF.of x))
  refine (Any.Builder_String_any_k lays169 bldExtra B b l w hF hBw).mono ?_
  rintro e w' ⟨rfl, _, hb, hk⟩
  refine ⟨rfl, hb, fun k o ho hc => hk k o ho ?_ ?_⟩
  · intro e
    cases e
    have : ∀ p, Lib.BuilderAt 40 5 B b p (Lib.byteCells l) w → False := by
      rintro p ⟨_, v, hbk, _⟩
      rw [hbk] at ho
      cases ho
      cases hc
    exact h.elim (this _) (this _)
  · rintro c fz rfl
    cases hc
/-! What is said of a builder, of a chain, speaks of cells alone. -/
theorem owns_own {W W' : World} {row : Option Nat} {base : Nat} {e : TypeId} {size : Nat} {v : Value} {n : Nat} {xs : List Value} (h : W.ownsRow base e size v n xs) (hg : W.grownBy W' row) (hr : ∀ r, row = some r → ∃ o : Obj, W.heap[r]? = some o ∧ o.isCells = false) : W'.ownsRow base e size v n xs := by
  refine h.kept hg ?_
  rcases h.2 with ⟨rfl, _⟩ | ⟨g, cap, cur, rfl, _, hgb, _⟩
  · exact .inl rfl
  · refine .inr fun e' => ?_
    obtain ⟨o, ho, hc⟩ := hr g (by simpa [Value.ownBlock] using e'.symm)
    rw [hgb] at ho; cases ho; cases hc
theorem builderAt_own {T e : TypeId} {B b : Nat} {p : Value} {bs : List Value} {W W' : World} {row : Option Nat} (h : Lib.BuilderAt T e B b p bs W) (hg : W.grownBy W' row) (hr : ∀ r, row = some r → ∃ o : Obj, W.heap[r]? = some o ∧ o.isCells = false) : Lib.BuilderAt T e B b p bs W' := by
  obtain ⟨hB, v, hbk, hown, hne⟩ := h
  exact ⟨hB, v, (grownBy_keeps_cells hg hr hbk rfl).trans hbk, owns_own hown hg hr, hne⟩
theorem bld_own {B b : Nat} {l : List UInt8} {W W' : World} {row : Option Nat} (h : Bld B b l W) (hg : W.grownBy W' row) (hr : ∀ r, row = some r → ∃ o : Obj, W.heap[r]? = some o ∧ o.isCells = false) : Bld B b l W' :=
  h.elim (fun x => .inl (builderAt_own x hg hr)) (fun x => .inr (builderAt_own x hg hr))
theorem boxed_keep {B : Nat} {t : TypeId} {v : Value} {W W' : World} {row : Option Nat} (h : Boxed W B t v) (hg : W.grownBy W' row) (hr : ∀ r, row = some r → ∃ o : Obj, W.heap[r]? = some o ∧ o.isCells = false) : Boxed W' B t v :=
  (grownBy_keeps_cells hg hr h rfl).trans h
theorem chain_own {W W' : World} {row : Option Nat} (hg : W.grownBy W' row) (hr : ∀ r, row = some r → ∃ o : Obj, W.heap[r]? = some o ∧ o.isCells = false) : ∀ {cs : List ByteArray} {o : Option Int} {v : Value}, Chain W cs o v → Chain W' cs o v
  | [], some _, _, h => h
  | [], none, _, h => h
  | _ :: _, _, _, ⟨b, v', e, hl, h0, h1, h2⟩ => ⟨b, v', e, Nat.lt_of_lt_of_le hl hg.size, cell_kept h0 hg hr, cell_kept h1 hg hr, chain_own hg hr h2⟩
end Go.Proofs.YtfaieldafoeaiaaDoor

/-
  parts of package label: the function that goes through a name's parts.
-/
namespace Go.Proofs.YtfaieldafoeaiaaDoor
open Go.RowKit Go.Shelf

attribute [local go_sem] Oper.semAt_some

/-- A part: its turn, the slice, what it reads as. -/
structure PartI where
  turn : Nat
  addr : Option Addr
  len : Nat
  cap : Nat
  list : List Int
/-- A part that lies in w. -/
abbrev PartAt (w : World) : Type := { p : PartI // Runes w p.addr p.list ∧ Fit p.list ∧ p.list.length = p.len ∧ p.len ≤ p.cap ∧ p.turn ≤ 1400 }
/-- Their turns are 0, 1, 2 .. -/
def Turns {w : World} (xs : List (PartAt w)) : Prop := xs.map (·.1.turn) = List.range xs.length
theorem Turns.snoc {w : World} {xs : List (PartAt w)} {x : PartAt w} (h : Turns xs) (hx : x.1.turn = xs.length) : Turns (xs ++ [x]) := by
  unfold Turns at h ⊢
  rw [List.map_append, h, List.length_append, List.length_singleton, List.range_succ]
  simp [hx]

set_option maxHeartbeats 1000000 in
set_option maxRecDepth 100000 in
theorem parts_any (A : Option Addr) (n cap : Nat) (w : World) :
    Calls Tryd.prog 13 #[.slice A n cap] w fun e w' => e = .returned (.func (.func 35) #[] #[.pointer (some ⟨w.heap.size, 0, none⟩)]) ∧ w.alloc (.cells #[.slice A n cap] 22) = w' := by
  have hmf : ∀ (fn : Fn) (first cap : Array Value) (w : World), (Instr.makeFunc fn first cap).run Tryd.prog w = .ok (.func fn first cap) w := fun _ _ _ _ => rfl
  go_enter Tryd.func13, Tryd.ntmps13
  go_wp2
  go_ret
  exact ⟨rfl, rfl⟩

theorem dot_split {r : List Int} (h : (46 : Int) ∈ r) : ∃ a b, r = a ++ 46 :: b ∧ (46 : Int) ∉ a := by
  induction r with
  | nil => cases h
  | cons c r ih =>
    by_cases hc : c = 46
    · exact ⟨[], r, by rw [hc]; rfl, by simp⟩
    · obtain ⟨a, b, rfl, ha⟩ := ih (by rcases List.mem_cons.1 h with h | h; exact absurd h.symm hc; exact h)
      exact ⟨c :: a, b, rfl, by rw [List.mem_cons, not_or]; exact ⟨fun e => hc e.symm, ha⟩⟩

/-- What the iterator's loop holds. -/
def PartsRel (w0 : World) (l : List Int) (J : List (PartAt w0) → World → Prop) (v3 v4 : Value) (wr : World) : Prop :=
  ∃ (pre : List (PartAt w0)) (A : Option Addr) (r : List Int) (cap : Nat), v3 = .slice A r.length cap ∧ v4 = .int .i64 (pre.length : Int) ∧ pre.length + r.length ≤ l.length ∧ Runes w0 A r ∧ Fit r ∧ r.length ≤ cap ∧
    pre.map (·.1.list) ++ partsOf r = partsOf l ∧ Turns pre ∧ Below w0.heap.size w0 wr ∧ J pre wr

set_option maxHeartbeats 2000000 in
set_option maxRecDepth 100000 in
theorem parts1_in (n : Nat) (hn : 1 ≤ n) (lp Bn : Nat) (w0 : World) (A0 : Option Addr) (l : List Int) (cap0 : Nat) (J Jx : List (PartAt w0) → World → Prop) (W : World)
    (hY : ∀ pre x W1, J pre W1 → pre.length < l.length + 1 → YieldAt Fence.wide (n - 1) Tryd.prog lp #[.int .i64 x.1.turn, .slice x.1.addr x.1.len x.1.cap] W1 fun e W' =>
      (e = .returned (.bool true) ∧ J (pre ++ [x]) W' ∧ Below w0.heap.size W1 W') ∨ (e = .returned (.bool false) ∧ Jx (pre ++ [x]) W'))
    (hb : Below w0.heap.size w0 W) (hBn : W.cell? ⟨Bn, 0, none⟩ = some (.slice A0 l.length cap0)) (hr : Runes w0 A0 l) (hf : Fit l) (hcap : l.length ≤ cap0) (h0 : J [] W) :
    CallsIn Fence.wide n Tryd.prog 35 #[.func (.yield lp) #[] #[], .pointer (some ⟨Bn, 0, none⟩)] W fun e W' => (∃ v, e = .returned v) ∧
      ((∃ ys, (Turns ys ∧ ys.map (·.1.list) = partsOf l) ∧ J ys W') ∨ (∃ pre, (Turns pre ∧ pre.map (·.1.list) <+: partsOf l) ∧ Jx pre W')) := by
  have HY := Lib.hid hY
  have HR := Lib.hid hr
  have HF := Lib.hid hf
  have H0 := Lib.hid h0
  have hl14 := hf.len
  clear hY hr hf h0
  refine callsIn_of_wp Tryd.func35 rfl trivial ?_ rfl
  simp only [Tryd.ntmps35, List.size_toArray, List.length_cons, List.length_nil, Nat.reduceAdd, Nat.reduceSub, Array.replicate_succ, Array.replicate_zero, List.push_toArray, List.append_toArray, List.nil_append, List.cons_append]
  gi_wp2
  gi_loopw [3, 4] (fun v3 v4 wr => PartsRel w0 l J v3 v4 wr) (fun _ v4 _ => l.length + 1 - (intOf v4).toNat)
  case atStart => exact ⟨[], A0, l, cap0, rfl, rfl, by simp, HR.out, HF.out, hcap, rfl, rfl, hb, H0.out⟩
  case round =>
    obtain ⟨pre, A, r, cap, rfl, rfl, hlen, hru, hfi, hrc, hpa, htu, hbr, hJs⟩ := hrel
    have HRu := Lib.hid hru
    have HFi := Lib.hid hfi
    have HPa := Lib.hid hpa
    have HTu := Lib.hid htu
    have HJs := Lib.hid hJs
    clear hru hfi hpa htu hJs
    by_cases hd : (46 : Int) ∈ r
    · obtain ⟨a, b, rfl, ha⟩ := dot_split hd
      have HP1 := Lib.hid (show partsOf (a ++ 46 :: b) = a :: partsOf b by rw [partsOf_append, partsOf_none ha]; rfl)
      have hrl : (a ++ 46 :: b).length = a.length + b.length + 1 := by rw [List.length_append, List.length_cons]; omega
      have HI := Lib.hid (indexDot_any A (a ++ 46 :: b) cap wr (HRu.out.below hbr) (by omega))
      rw [dotAt_here (k := a.length) (by rw [hrl]; omega) (by simp) (fun c hc e => ha (by rw [List.take_left] at hc; rw [← e]; exact hc))] at HI
      obtain ⟨bk, off, rfl, _, _⟩ := HRu.out 0 (a ++ 46 :: b)[0] (List.getElem?_eq_getElem (by rw [hrl]; omega))
      have hRa : Runes w0 (some ⟨bk, off, none⟩) a := fun i c hc => HRu.out i c (by rw [List.getElem?_append_left (List.getElem?_eq_some_iff.1 hc).1]; exact hc)
      have HRb : Hid (Runes w0 (some ⟨bk, off + (a.length + 1), none⟩) b) := by
        intro i c hc
        obtain ⟨b', off', e, h1, h2⟩ := HRu.out (a.length + 1 + i) c (by rw [List.getElem?_append_right (by omega), show a.length + 1 + i - a.length = i + 1 by omega, List.getElem?_cons_succ]; exact hc)
        cases e
        exact ⟨_, _, rfl, h1, by rw [Nat.add_assoc]; exact h2⟩
      have hFa : Fit a := HFi.out.sub (fun c hc => List.mem_append_left _ hc) (by omega)
      have HFb := Lib.hid (show Fit b from HFi.out.sub (fun c hc => List.mem_append_right _ (List.mem_cons_of_mem _ hc)) (by omega))
      obtain ⟨x, hx⟩ : ∃ x : PartAt w0, x.1 = ⟨pre.length, some ⟨bk, off, none⟩, a.length, cap, a⟩ := ⟨⟨_, hRa, hFa, rfl, by show a.length ≤ cap; omega, by show pre.length ≤ 1400; omega⟩, rfl⟩
      obtain ⟨fn, tmps, assign, body, hy, hR⟩ := HY.out pre x wr HJs.out (by omega)
      rw [hx] at hy
      dsimp only at hy
      have HX := Lib.hid hx
      clear hx
      have HRL := Lib.hid hrl
      obtain ⟨m, hm⟩ : ∃ m, (a ++ 46 :: b).length = m := ⟨_, rfl⟩
      rw [hm] at hrl hlen hrc HI HRL ⊢
      have hm2 : a.length + 1 ≤ m := by omega
      clear hd ha hRa hFa hm hrl
      gi_wp2_with (refine ⟨trivial, ?_⟩; gi_at_call 36; refine (callsIn_wide.2 HI.out).mono ?_; rintro e w' ⟨rfl, rfl⟩)
      refine hR.mono ?_
      clear hR hy
      rintro e W3 (⟨rfl, hJ3, hk3⟩ | ⟨rfl, hJx3⟩)
      · have HJ3 := Lib.hid hJ3
        have HK3 := Lib.hid hk3
        clear hJ3 hk3
        by_cases hcp : cap = a.length + 1
        · subst hcp
          gi_wp2
          go_roundw
          case rel =>
            have hb0 : b = [] := List.eq_nil_of_length_eq_zero (by have := HRL.out; omega)
            subst hb0
            exact ⟨pre ++ [x], _, [], 0, rfl, by rw [List.length_append]; rfl, by rw [List.length_append]; simp; omega, Runes.nil_, HFb.out, Nat.le_refl _, by rw [List.map_append, List.map_singleton, HX.out, ← HPa.out, HP1.out]; simp, HTu.out.snoc (by rw [HX.out]), hbr.trans HK3.out, HJ3.out⟩
          case measure => simp [intOf]; omega
        · gi_wp2
          go_roundw
          case rel =>
            have hml : m - (a.length + 1) = b.length := by have := HRL.out; omega
            rw [hml]
            exact ⟨pre ++ [x], _, b, _, rfl, by rw [List.length_append]; rfl, by have := HRL.out; rw [List.length_append, List.length_singleton]; omega, HRb.out, HFb.out, by have := HRL.out; omega, by rw [List.map_append, List.map_singleton, HX.out, ← HPa.out, HP1.out]; simp, HTu.out.snoc (by rw [HX.out]), hbr.trans HK3.out, HJ3.out⟩
          case measure => simp [intOf]; omega
      · gi_wp2
        refine bodyPost_ret (results_none rfl _ _ _) rfl ?_
        exact ⟨⟨_, rfl⟩, .inr ⟨_, ⟨HTu.out.snoc (by rw [HX.out]), by rw [List.map_append, ← HPa.out, HP1.out, List.map_singleton, HX.out]; exact ⟨partsOf b, by simp⟩⟩, hJx3⟩⟩
    · have HI := Lib.hid (indexDot_any A r cap wr (HRu.out.below hbr) (by omega))
      rw [dotAt_none (fun c hc e => hd (by rw [← e]; exact hc))] at HI
      have HP1 := Lib.hid (partsOf_none hd)
      clear hd
      obtain ⟨x, hx⟩ : ∃ x : PartAt w0, x.1 = ⟨pre.length, A, r.length, cap, r⟩ := ⟨⟨_, HRu.out, HFi.out, rfl, hrc, by show pre.length ≤ 1400; omega⟩, rfl⟩
      obtain ⟨fn, tmps, assign, body, hy, hR⟩ := HY.out pre x wr HJs.out (by omega)
      rw [hx] at hy
      dsimp only at hy
      have HX := Lib.hid hx
      clear hx
      gi_wp2_with (refine ⟨trivial, ?_⟩; gi_at_call 36; refine (callsIn_wide.2 HI.out).mono ?_; rintro e w' ⟨rfl, rfl⟩)
      refine hR.mono ?_
      clear hR hy
      rintro e W3 (⟨rfl, hJ3, hk3⟩ | ⟨rfl, hJx3⟩)
      · gi_wp2
        refine bodyPost_ret (results_none rfl _ _ _) rfl ?_
        exact ⟨⟨_, rfl⟩, .inl ⟨_, ⟨HTu.out.snoc (by rw [HX.out]), by rw [List.map_append, ← HPa.out, HP1.out, List.map_singleton, HX.out]⟩, hJ3⟩⟩
      · gi_wp2
        refine bodyPost_ret (results_none rfl _ _ _) rfl ?_
        exact ⟨⟨_, rfl⟩, .inr ⟨_, ⟨HTu.out.snoc (by rw [HX.out]), by rw [List.map_append, ← HPa.out, HP1.out, List.map_singleton, HX.out]; exact List.prefix_refl _⟩, hJx3⟩⟩

theorem parts_stops (n : Nat) (hn : 1 ≤ n) (Bn : Nat) (w0 : World) (A0 : Option Addr) (l : List Int) (cap0 : Nat) (w : World) (hb : Below w0.heap.size w0 w) (hBn : Bn < w.heap.size)
    (hc : w.cell? ⟨Bn, 0, none⟩ = some (.slice A0 l.length cap0)) (hr : Runes w0 A0 l) (hf : Fit l) (hcap : l.length ≤ cap0) :
    SeqStopsK Fence.wide n Tryd.prog 35 #[.pointer (some ⟨Bn, 0, none⟩)] (fun x : PartAt w0 => #[Value.int .i64 (x.1.turn : Int), Value.slice x.1.addr x.1.len x.1.cap]) (Below w0.heap.size) (fun ys => Turns ys ∧ ys.map (·.1.list) = partsOf l) (fun pre => Turns pre ∧ pre.map (·.1.list) <+: partsOf l) (l.length + 1) w := fun lp J Jx W hW _ _ hY h0 =>
  parts1_in n hn lp Bn w0 A0 l cap0 J Jx W hY (hb.trans (hW.mono hb.size)) ((hW.cell (p := ⟨Bn, 0, none⟩) hBn).trans hc) hr hf hcap h0
end Go.Proofs.YtfaieldafoeaiaaDoor

/- Texts that the others stand on. -/
import Derived.Test.YtnajhjmdpaeelaaGreatDoorProg
import Derived.WalkKit
import Derived.LaidEql
import Derived.Stop.Asserts
import Derived.RowKitTokens
import Derived.Elder7
import Derived.Deep.LoopGhost
import Derived.Defers
import Derived.Recover
import Derived.Test.YtnajhjmdpaeelaaGreatDoorRows
import Derived.ProofKit
import Derived.LaidLaws
import Derived.LaidHandle
import Derived.Stop.Joined
namespace Go.Proofs.YtnajhjmdpaeelaaGreatDoor
open Go.RowKit Go.Extern.Stop Go.Stop Go.Extern
theorem Tryz.size : Tryz.prog.types.size = 395 := by kernel_rfl
theorem Tryz.valueOf41 (t : Addr) (w : World) : (ReflectliteValue.unpack (.iface 135 (.pointer (some t)))).run Tryz.prog w
    = .ok (.agg #[.pointer (some ⟨1, 135, none⟩), .pointer (some ⟨w.heap.size, 0, none⟩), .int .u64 150]) (w.alloc (.cells #[.pointer (some t)] 135)) := by kernel_rfl
theorem Tryz.valueOf22 (c : Int) (w : World) : (ReflectliteValue.unpack (.iface 44 (.int .i64 c))).run Tryz.prog w
    = .ok (.agg #[.pointer (some ⟨1, 44, none⟩), .pointer (some ⟨w.heap.size, 0, none⟩), .int .u64 130]) (w.alloc (.cells #[.int .i64 c] 44)) := by kernel_rfl
theorem Tryz.type41 (a : Addr) (w : World) : (ReflectliteValue.methodAny (ReflectliteValue.valueError "reflectlite.Value.Type" 0) (fun t _ _ _ => ReflectliteType.toType t) #[.agg #[.pointer (some ⟨1, 135, none⟩), .pointer (some a), .int .u64 150]]).run Tryz.prog w
    = .ok (.iface 251 (.agg #[.pointer (some ⟨1, 135, none⟩)])) w := by kernel_rfl
theorem Tryz.methodKind (h : Value) (w : World) : (Go.method 495 251 (.agg #[h]) "Kind").run Tryz.prog w = .ok (234, h) w := by kernel_rfl
theorem Tryz.methodElem (h : Value) (w : World) : (Go.method 495 251 (.agg #[h]) "Elem").run Tryz.prog w = .ok (254, .agg #[h]) w := by kernel_rfl
theorem Tryz.methodImplements (h : Value) (w : World) : (Go.method 495 251 (.agg #[h]) "Implements").run Tryz.prog w = .ok (255, .agg #[h]) w := by kernel_rfl
theorem Tryz.methodAssignableTo (h : Value) (w : World) : (Go.method 495 251 (.agg #[h]) "AssignableTo").run Tryz.prog w = .ok (252, .agg #[h]) w := by kernel_rfl
theorem Tryz.methodUnwrap (v : Value) (w : World) : (Go.method 495 170 v "Unwrap").run Tryz.prog w = .ok (247, v) w := by kernel_rfl
theorem Tryz.kind41 (w : World) : ((ReflectliteType.abiMethod fun t => (fun a : Nat => Value.int IntKind.u8 (a : Int)) <$> Rtype.kind t) #[.pointer (some ⟨1, 135, none⟩)]).run Tryz.prog w = .ok (.int .u8 22) w := by kernel_rfl
theorem Tryz.kind22 (w : World) : ((ReflectliteType.abiMethod fun t => (fun a : Nat => Value.int IntKind.u8 (a : Int)) <$> Rtype.kind t) #[.pointer (some ⟨1, 44, none⟩)]).run Tryz.prog w = .ok (.int .u8 2) w := by kernel_rfl
theorem Tryz.elem41 (w : World) : (ReflectliteType.method ReflectliteType.elem #[.agg #[.pointer (some ⟨1, 135, none⟩)]]).run Tryz.prog w = .ok (.iface 251 (.agg #[.pointer (some ⟨1, 44, none⟩)])) w := by kernel_rfl
theorem Tryz.implements22 (w : World) : (ReflectliteType.relation "Implements" ReflectliteType.implements_ #[.agg #[.pointer (some ⟨1, 44, none⟩)], .iface 251 (.agg #[.pointer (some ⟨1, 41, none⟩)])]).run Tryz.prog w = .ok (.bool true) w := by kernel_rfl
theorem Tryz.typeOf22 (v : Value) (w : World) : (ReflectliteType.typeOf #[.iface 44 v]).run Tryz.prog w = .ok (.iface 251 (.agg #[.pointer (some ⟨1, 44, none⟩)])) w := by kernel_rfl
theorem Tryz.typeOf36 (v : Value) (w : World) : (ReflectliteType.typeOf #[.iface 170 v]).run Tryz.prog w = .ok (.iface 251 (.agg #[.pointer (some ⟨1, 170, none⟩)])) w := by kernel_rfl
theorem Tryz.assign22_22 (w : World) : (ReflectliteType.relation "AssignableTo" ReflectliteType.assignableTo #[.agg #[.pointer (some ⟨1, 44, none⟩)], .iface 251 (.agg #[.pointer (some ⟨1, 44, none⟩)])]).run Tryz.prog w = .ok (.bool true) w := by kernel_rfl
theorem Tryz.assign36_22 (w : World) : (ReflectliteType.relation "AssignableTo" ReflectliteType.assignableTo #[.agg #[.pointer (some ⟨1, 170, none⟩)], .iface 251 (.agg #[.pointer (some ⟨1, 44, none⟩)])]).run Tryz.prog w = .ok (.bool false) w := by kernel_rfl
theorem Tryz.noAs36 (v : Value) (xT : TypeId) (w : World) : (Instr.typeAssert (.iface 170 v) xT 255 true).run Tryz.prog w = .ok (.tuple #[.nilIface, .bool false]) w := run_typeAssert_lacksB Tryz.underlying255 (by kernel_rfl) (by kernel_rfl) v xT w
theorem Tryz.hasUnwrap36 (v : Value) (xT : TypeId) (w : World) : (Instr.typeAssert (.iface 170 v) xT 258 true).run Tryz.prog w = .ok (.tuple #[.iface 170 v, .bool true]) w := run_typeAssert_hasB Tryz.underlying258 (by kernel_rfl) v xT w
theorem Tryz.parts41 (a : Addr) (w : World) : (ReflectliteValue.parts (.agg #[.pointer (some ⟨1, 135, none⟩), .pointer (some a), .int .u64 150])).run Tryz.prog w = .ok (some (135, a, 150)) w := by kernel_rfl
theorem Tryz.isNil41 (a p : Addr) (W : World) (ha : W.cell? a = some (.pointer (some p))) :
    (ReflectliteValue.method (ReflectliteValue.valueError "reflectlite.Value.IsNil" 0) ReflectliteValue.isNil #[.agg #[.pointer (some ⟨1, 135, none⟩), .pointer (some a), .int .u64 150]]).run Tryz.prog W = .ok (.bool false) W := by
  change Sem.run Tryz.prog (ReflectliteValue.parts _ >>= _) W = _
  simp only [Array.getLit, List.getElem_toArray, List.getElem_cons_zero, Sem.run_bind, Tryz.parts41, Result.andThen]
  simp [ReflectliteValue.isNil, loadVar, isAgg, underlying, Tryz.underlying135, ha, Result.andThen]
theorem Tryz.elemOf41 (w : World) : (Rtype.elem? 135).run Tryz.prog w = .ok (some 44) w := by kernel_rfl
theorem Tryz.mk22 (p : Addr) (w : World) : (ReflectliteValue.mk 44 p ReflectliteValue.flagAddr).run Tryz.prog w = .ok (.agg #[.pointer (some ⟨1, 44, none⟩), .pointer (some p), .int .u64 386]) w := by kernel_rfl
theorem Tryz.elemV41 (a p : Addr) (W : World) (ha : W.cell? a = some (.pointer (some p))) :
    (ReflectliteValue.method (ReflectliteValue.valueError "reflectlite.Value.Elem" 0) ReflectliteValue.elem #[.agg #[.pointer (some ⟨1, 135, none⟩), .pointer (some a), .int .u64 150]]).run Tryz.prog W
      = .ok (.agg #[.pointer (some ⟨1, 44, none⟩), .pointer (some p), .int .u64 386]) W := by
  change Sem.run Tryz.prog (ReflectliteValue.parts _ >>= _) W = _
  simp only [Array.getLit, List.getElem_toArray, List.getElem_cons_zero, Sem.run_bind, Tryz.parts41, Result.andThen]
  simp [ReflectliteValue.elem, loadVar, isAgg, underlying, Tryz.underlying135, ha, Result.andThen, Tryz.elemOf41, Tryz.mk22]
theorem Tryz.parts22a (a : Addr) (w : World) : (ReflectliteValue.parts (.agg #[.pointer (some ⟨1, 44, none⟩), .pointer (some a), .int .u64 386])).run Tryz.prog w = .ok (some (44, a, 386)) w := by kernel_rfl
theorem Tryz.parts22 (a : Addr) (w : World) : (ReflectliteValue.parts (.agg #[.pointer (some ⟨1, 44, none⟩), .pointer (some a), .int .u64 130])).run Tryz.prog w = .ok (some (44, a, 130)) w := by kernel_rfl
theorem Tryz.direct22 (w : World) : (Rtype.directlyAssignable 44 44).run Tryz.prog w = .ok true w := by kernel_rfl
theorem Tryz.set22 (ta b : Addr) (c : Int) (old : Value) (W : World) (hb : W.cell? b = some (.int .i64 c)) (ht : W.cell? ta = some old) (hf : W.frozen? ta = false) :
    (ReflectliteValue.set #[.agg #[.pointer (some ⟨1, 44, none⟩), .pointer (some ta), .int .u64 386], .agg #[.pointer (some ⟨1, 44, none⟩), .pointer (some b), .int .u64 130]]).run Tryz.prog W
      = .ok (.tuple #[]) (W.setCell ta (.int .i64 c)) := by
  change Sem.run Tryz.prog (ReflectliteValue.parts _ >>= _) W = _
  simp only [Array.getLit, List.getElem_toArray, List.getElem_cons_zero, List.getElem_cons_succ, Sem.run_bind, Tryz.parts22a, Tryz.parts22, Result.andThen]
  simp [ReflectliteValue.flagAddr, loadVar, isAgg, underlying, Tryz.underlying44, hb, Result.andThen, Tryz.direct22, storeVar, Value.cells, storeCells, Addr.add]
  rw [run_store Tryz.prog W ta _ _ (by rfl)]
  simp [ht, hf]
/-- An error in the world W: the root R under n faults. -/
def ChainN (W : World) (R : Value) : Nat → Value → Prop
  | 0, E => E = R
  | n + 1, E => ∃ (b : Nat) (s : ByteArray) (E1 : Value), E = .iface 170 (.pointer (some ⟨b, 0, none⟩)) ∧ W.cell? ⟨b, 0, none⟩ = some (.string s) ∧ W.cell? ⟨b, 1, none⟩ = some E1 ∧ ChainN W R n E1
def Chain (W : World) (R E : Value) (n : Nat) : Prop := ChainN W R n E
theorem Chain.leaf {W : World} {R : Value} : Chain W R R 0 := rfl
theorem Chain.wrap {W : World} {R : Value} (b : Nat) (s : ByteArray) (E : Value) (n : Nat) (h1 : W.cell? ⟨b, 0, none⟩ = some (.string s)) (h2 : W.cell? ⟨b, 1, none⟩ = some E) (h3 : Chain W R E n) : Chain W R (.iface 170 (.pointer (some ⟨b, 0, none⟩))) (n + 1) :=
  ⟨b, s, E, rfl, h1, h2, h3⟩
theorem Chain.parts {W : World} {R E : Value} {n : Nat} (h : Chain W R E n) :
    (n = 0 ∧ R = E) ∨ ∃ b s E1 k, n = k + 1 ∧ E = .iface 170 (.pointer (some ⟨b, 0, none⟩)) ∧ W.cell? ⟨b, 0, none⟩ = some (.string s) ∧ W.cell? ⟨b, 1, none⟩ = some E1 ∧ Chain W R E1 k := by
  cases n with
  | zero => exact Or.inl ⟨rfl, Eq.symm h⟩
  | succ k =>
    obtain ⟨b, s, E1, rfl, h1, h2, h3⟩ := h
    exact Or.inr ⟨b, s, E1, k, rfl, rfl, h1, h2, h3⟩
theorem lt_of_cell? {W : World} {a : Addr} {v : Value} (h : W.cell? a = some v) : a.block < W.heap.size := by
  rcases Nat.lt_or_ge a.block W.heap.size with h1 | h1
  · exact h1
  · simp [World.cell?, Array.getElem?_eq_none h1] at h
theorem Chain.keep {W W' : World} {B : Nat} (hb : Below B W W') (hB : W.heap.size ≤ B) {R : Value} : ∀ {n : Nat} {E : Value}, Chain W R E n → Chain W' R E n
  | 0, _, h => h
  | n + 1, _, ⟨b, s, E1, e, h1, h2, h3⟩ =>
    ⟨b, s, E1, e, by rw [hb.cell (p := ⟨b, 0, none⟩) (Nat.lt_of_lt_of_le (lt_of_cell? h1) hB)]; exact h1,
      by rw [hb.cell (p := ⟨b, 1, none⟩) (Nat.lt_of_lt_of_le (lt_of_cell? h2) hB)]; exact h2, Chain.keep hb hB (n := n) h3⟩
theorem Chain.iface {W : World} {R E : Value} {n : Nat} (h : Chain W R E n) (hR : ∃ u v, R = .iface u v) : ∃ u v, E = .iface u v := by
  rcases h.parts with ⟨_, rfl⟩ | ⟨b, s, E1, k, _, rfl, _⟩
  · exact hR
  · exact ⟨_, _, rfl⟩
abbrev codeV (c : Int) : Value := .iface 44 (.int .i64 c)
/-- reflectlite's Value of the target, as its three cells. -/
abbrev rv (t : Nat) (a : Addr) : Obj := .cells #[.pointer (some ⟨1, t, none⟩), .pointer (some a), .int .u64 150] 207
abbrev rg (t : Nat) (a : Addr) : Value := .agg #[.pointer (some ⟨1, t, none⟩), .pointer (some a), .int .u64 150]
abbrev rt (t : Nat) : Value := .iface 251 (.agg #[.pointer (some ⟨1, t, none⟩)])
set_option maxHeartbeats 1000000 in
set_option maxRecDepth 100000 in
theorem as22 (E : Value) (c : Int) (n : Nat) (t a : Addr) (old : Value) (w : World) (hch : Chain w (codeV c) E n) (ha : w.cell? a = some (.pointer (some t))) (ht0 : w.cell? t = some old) (hf0 : w.frozen? t = false) :
    Calls Tryz.prog 120 #[E, .iface 135 (.pointer (some t)), rg 135 a, rt 44] w fun e w' => e = .returned (.bool true) ∧ w' = ((w.alloc (rv 135 a)).alloc (.cells #[.int .i64 c] 44)).setCell t (.int .i64 c) := by
  have h36 := @run_callFunc_extern Tryz.prog 162 _ ReflectliteType.typeOf Tryz.func162 (by kernel_rfl) (by kernel_rfl) (by kernel_rfl) (by kernel_rfl)
  have h72 := @run_callFunc_extern Tryz.prog 252 _ (ReflectliteType.relation "AssignableTo" ReflectliteType.assignableTo) Tryz.func252 (by kernel_rfl) (by kernel_rfl) (by kernel_rfl) (by kernel_rfl)
  have h32 := @run_callFunc_extern Tryz.prog 117 _ (fun args => ReflectliteValue.unpack (args.getD 0 (.tuple #[]))) Tryz.func117 (by kernel_rfl) (by kernel_rfl) (by kernel_rfl) (by kernel_rfl)
  have h43 := @run_callFunc_extern Tryz.prog 164 _ (ReflectliteValue.method (ReflectliteValue.valueError "reflectlite.Value.Elem" 0) ReflectliteValue.elem) Tryz.func164 (by kernel_rfl) (by kernel_rfl) (by kernel_rfl) (by kernel_rfl)
  have h44 := @run_callFunc_extern Tryz.prog 165 _ ReflectliteValue.set Tryz.func165 (by kernel_rfl) (by kernel_rfl) (by kernel_rfl) (by kernel_rfl)
  have t22 := Tryz.typeOf22
  have t36 := Tryz.typeOf36
  have mA := Tryz.methodAssignableTo
  have a22 := Tryz.assign22_22
  have a36 := Tryz.assign36_22
  have v22 := Tryz.valueOf22
  have nA := Tryz.noAs36
  have hU := Tryz.hasUnwrap36
  have mU := Tryz.methodUnwrap
  have hal := lt_of_cell? ha
  have htl := lt_of_cell? ht0
  have el := Tryz.elemV41 a t (w.alloc (rv 135 a)) (by rw [World.cell?_alloc_lt _ _ a hal]; exact ha)
  have st := Tryz.set22 t ⟨w.heap.size + 1, 0, none⟩ c old ((w.alloc (rv 135 a)).alloc (.cells #[.int .i64 c] 44))
    (by rw [World.cell?_alloc_at _ _ _ _ (by simp)]; rfl)
    (by rw [World.cell?_alloc_lt _ _ t (by simp; omega), World.cell?_alloc_lt _ _ t htl]; exact ht0)
    (by rw [World.frozen?_alloc_old _ _ t (by simp; omega), World.frozen?_alloc_old _ _ t (Nat.ne_of_lt htl)]; exact hf0)
  go_enter Tryz.func120, Tryz.ntmps120
  go_wp2
  go_loopg [0] n (fun k E' wr => wr = w.alloc (rv 135 a) ∧ Chain w (codeV c) E' k)
  case atStart => exact ⟨rfl, hch⟩
  case round =>
    obtain ⟨rfl, hc'⟩ := hrel
    rcases hc'.parts with ⟨rfl, rfl⟩ | ⟨b, s, E1, k, rfl, rfl, h1, h2, h3⟩
    · clear hc'
      go_wp2
      go_ret
      exact ⟨rfl, rfl⟩
    · clear hc'
      obtain ⟨u1, v1, rfl⟩ := h3.iface ⟨_, _, rfl⟩
      have h2' : (w.alloc (rv 135 a)).cell? ⟨b, 1, none⟩ = some (.iface u1 v1) := by rw [World.cell?_alloc_lt _ _ _ (lt_of_cell? h2)]; exact h2
      have HC : Hid (Chain w (codeV c) (.iface u1 v1) k) := h3
      clear h3
      go_wp2
      go_roundg k
      case measure => omega
      case rel => exact ⟨rfl, HC.out⟩
/-- package errors' errorType, as the program's text lays it. -/
abbrev Laid (w : World) : Prop := w.cell? ⟨0, 0, none⟩ = some (rt 41)
theorem Laid.keep {w w' : World} {B : Nat} (h : Laid w) (hb : Below B w w') (hB : 0 < B) : Laid w' := by
  show w'.cell? ⟨0, 0, none⟩ = _
  rw [hb.cell (p := ⟨0, 0, none⟩) hB]; exact h
abbrev preW (w : World) (T : Nat) (t : Addr) : World := (w.alloc (.cells #[.pointer (some t)] T)).alloc (rv T ⟨w.heap.size, 0, none⟩)
theorem preW_below (w : World) (T : Nat) (t : Addr) : Below w.heap.size w (preW w T t) :=
  ((Below.refl _ _).alloc (Nat.le_refl _) _).alloc (by simp) _
set_option maxHeartbeats 1000000 in
set_option maxRecDepth 100000 in
theorem As41 (u : TypeId) (v : Value) (t : Addr) (w : World) (r : Bool) (Q : World → Prop) (hg : Laid w)
    (h : Calls Tryz.prog 120 #[.iface u v, .iface 135 (.pointer (some t)), rg 135 ⟨w.heap.size, 0, none⟩, rt 44] (preW w 135 t) fun e w' => e = .returned (.bool r) ∧ Q w') :
    Calls Tryz.prog 71 #[.iface u v, .iface 135 (.pointer (some t))] w fun e w' => e = .returned (.bool r) ∧ Q w' := by
  have h32 := @run_callFunc_extern Tryz.prog 117 _ (fun args => ReflectliteValue.unpack (args.getD 0 (.tuple #[]))) Tryz.func117 (by kernel_rfl) (by kernel_rfl) (by kernel_rfl) (by kernel_rfl)
  have h33 := @run_callFunc_extern Tryz.prog 118 _ (ReflectliteValue.methodAny (ReflectliteValue.valueError "reflectlite.Value.Type" 0) (fun t _ _ _ => ReflectliteType.toType t)) Tryz.func118 (by kernel_rfl) (by kernel_rfl) (by kernel_rfl) (by kernel_rfl)
  have h34 := @run_callFunc_extern Tryz.prog 119 _ (ReflectliteValue.method (ReflectliteValue.valueError "reflectlite.Value.IsNil" 0) ReflectliteValue.isNil) Tryz.func119 (by kernel_rfl) (by kernel_rfl) (by kernel_rfl) (by kernel_rfl)
  have h62 := @run_callFunc_extern Tryz.prog 234 _ (ReflectliteType.abiMethod fun t => do pure (.int .u8 (← Rtype.kind t))) Tryz.func234 (by kernel_rfl) (by kernel_rfl) (by kernel_rfl) (by kernel_rfl)
  have h74 := @run_callFunc_extern Tryz.prog 254 _ (ReflectliteType.method ReflectliteType.elem) Tryz.func254 (by kernel_rfl) (by kernel_rfl) (by kernel_rfl) (by kernel_rfl)
  have h75 := @run_callFunc_extern Tryz.prog 255 _ (ReflectliteType.relation "Implements" ReflectliteType.implements_) Tryz.func255 (by kernel_rfl) (by kernel_rfl) (by kernel_rfl) (by kernel_rfl)
  have f6 := Tryz.valueOf41
  have f7 := Tryz.type41
  have mK := Tryz.methodKind
  have mE := Tryz.methodElem
  have mI := Tryz.methodImplements
  have k41 := Tryz.kind41
  have k22 := Tryz.kind22
  have e41 := Tryz.elem41
  have i22 := Tryz.implements22
  have n8 := Tryz.isNil41 ⟨w.heap.size, 0, none⟩ t (preW w 135 t) (by simp)
  have hg2 : Laid (preW w 135 t) := hg.keep (preW_below w 135 t) (lt_of_cell? hg)
  have H : Hid (Calls Tryz.prog 120 #[.iface u v, .iface 135 (.pointer (some t)), rg 135 ⟨w.heap.size, 0, none⟩, rt 44] (preW w 135 t) fun e w' => e = .returned (.bool r) ∧ Q w') := h
  clear h
  go_enter Tryz.func71, Tryz.ntmps71
  go_wp2_with (go_at_call 120; refine H.out.mono ?_; rintro e w' ⟨rfl, hq⟩)
  go_ret
  exact ⟨rfl, hq⟩
/-- The target's variable gets 'v'; all else that was there stays; new blocks come. -/
abbrev asW (w : World) (T T' : Nat) (t : Addr) (v : Value) : World := (((preW w T t).alloc (rv T ⟨w.heap.size, 0, none⟩)).alloc (.cells #[v] T')).setCell t v
theorem As_code (E : Value) (c : Int) (n : Nat) (t : Addr) (old : Value) (w : World) (hg : Laid w) (hch : Chain w (codeV c) E n) (ht0 : w.cell? t = some old) (hf0 : w.frozen? t = false) :
    Calls Tryz.prog 71 #[E, .iface 135 (.pointer (some t))] w fun e w' => e = .returned (.bool true) ∧ w' = asW w 135 44 t (.int .i64 c) := by
  have hpre := preW_below w 135 t
  have htl := lt_of_cell? ht0
  obtain ⟨u, v, rfl⟩ := hch.iface ⟨_, _, rfl⟩
  exact As41 u v t w true _ hg (as22 _ c n t ⟨w.heap.size, 0, none⟩ old _ (hch.keep hpre (Nat.le_refl _)) (by simp) (by rw [hpre.cell htl]; exact ht0) (by rw [hpre.frozen htl]; exact hf0))
theorem rec41 (w : World) : CallsD Tryz.prog 70 #[] .returning w fun e u' w' => e = .returned (.tuple #[]) ∧ u' = .returning ∧ w' = w := by
  refine callsD_of_wpS Tryz.func70 rfl fun c₀ cs hu => ?_
  apply wpS_region
  cases c₀
  simp_all [wpOpsS, go_sem, recoverD, Tryz.ntmps70, bodyPostS, results, Tryz.results70]
theorem below4 (w : World) (a b c d : Obj) : Below w.heap.size w ((((w.alloc a).alloc b).alloc c).alloc d) :=
  ((((Below.refl _ _).alloc (Nat.le_refl _) _).alloc (by simp) _).alloc (by simp; omega) _).alloc (by simp; omega) _
theorem below5 (w : World) (a b c d e : Obj) : Below w.heap.size w (((((w.alloc a).alloc b).alloc c).alloc d).alloc e) :=
  (below4 w a b c d).alloc (by simp; omega) _
set_option maxHeartbeats 1000000 in
set_option maxRecDepth 100000 in
theorem findCode_code (E : Value) (c : Int) (n : Nat) (w : World) (hg : Laid w) (hch : Chain w (codeV c) E n) :
    Calls Tryz.prog 29 #[E] w fun e w' => e = .returned (.tuple #[.int .i64 c, .bool true]) ∧ Below w.heap.size w w' := by
  have hal : Below w.heap.size w (w.alloc (.cells #[.int .i64 0] 44)) := (Below.refl _ _).alloc (Nat.le_refl _) _
  have HC : Hid (Chain (w.alloc (.cells #[.int .i64 0] 44)) (codeV c) E n) := hch.keep hal (Nat.le_refl _)
  have HG : Hid (Laid (w.alloc (.cells #[.int .i64 0] 44))) := hg.keep hal (lt_of_cell? hg)
  clear hch hg hal
  have hnot : ∀ (x : Bool) (w : World), (Op.unary .not (.bool x)).run Tryz.prog w = .ok (.bool (!x)) w := fun _ _ => rfl
  go_enter_defers Tryz.func29, Tryz.ntmps29
  go_wp2_with (go_at_call 71; refine (As_code _ c n ⟨w.heap.size, 0, none⟩ (.int .i64 0) _ HG.out HC.out (by simp) (by simp)).mono ?_; rintro e w' ⟨rfl, rfl⟩)
  refine leaves_cons (f := 70) (args := #[]) (by simp) (by simp [go_sem]) ?_
  refine (rec41 _).mono ?_
  rintro e u' w'' ⟨rfl, rfl, rfl⟩
  simp [Leaves, settle, results, Tryz.results29, go_sem]
  exact below5 _ _ _ _ _ _
abbrev newW (w : World) (s : ByteArray) (E : Value) : World := w.alloc (.cells #[.string s, E] 172)
abbrev newE (w : World) : Value := .iface 170 (.pointer (some ⟨w.heap.size, 0, none⟩))
theorem newW_below (w : World) (s : ByteArray) (E : Value) : Below w.heap.size w (newW w s E) := (Below.refl _ _).alloc (Nat.le_refl _) _
theorem Chain.new {w : World} {R E : Value} {n : Nat} (h : Chain w R E n) (s : ByteArray) : Chain (newW w s E) R (newE w) (n + 1) :=
  .wrap _ s E n (by simp) (by simp) (h.keep (newW_below w s E) (Nat.le_refl _))
theorem New_err (s : ByteArray) (c : Int) (hc : ¬ c = 0) (w : World) : Calls Tryz.prog 53 #[.string s, .int .i64 c] w fun e w' => e = .returned (newE w) ∧ w' = newW w s (codeV c) := by
  have hc' : (c == 0) = false := by simp [hc]
  go_enter Tryz.func53, Tryz.ntmps53
  go_wp2
  go_ret
  exact ⟨rfl, rfl⟩
set_option maxHeartbeats 400000 in
theorem Code_code (E : Value) (c : Int) (n : Nat) (w : World) (hg : Laid w) (hch : Chain w (codeV c) E n) :
    Calls Tryz.prog 10 #[E] w fun e w' => e = .returned (.int .i64 c) ∧ Below w.heap.size w w' := by
  obtain ⟨u, v, rfl⟩ := hch.iface ⟨_, _, rfl⟩
  have HC : Hid (Chain w (codeV c) (.iface u v) n) := hch
  have HG : Hid (Laid w) := hg
  clear hch hg
  go_enter Tryz.func10, Tryz.ntmps10
  go_wp2_with (go_at_call 29; refine (findCode_code _ c n _ HG.out HC.out).mono ?_; rintro e w' ⟨rfl, hb⟩)
  go_ret
  exact ⟨rfl, hb⟩
end Go.Proofs.YtnajhjmdpaeelaaGreatDoor
namespace Go.Proofs.YtnajhjmdpaeelaaGreatDoor
open Go.ChangeShapes Go.WideShapes Go.ChangeAt Go.RowKit
theorem Tryz.own : ownKnob Tryz.prog.godebug = none := by kernel_rfl
theorem Tryz.laidOut : laidOutB Tryz.prog = true := by kernel_rfl
theorem Tryz.et : Tryz.prog.globalNamed "errors.errorType" = some 0 := by kernel_rfl
theorem Tryz.rtyp : (Tryz.prog.cutTypes.find? (·.1 == "internal/reflectlite.rtype")).map (·.2) = some 251 := by kernel_rfl
theorem Tryz.oneRow : ((List.range 395).filter fun t => Tryz.prog.rowNamed t [101, 114, 114, 111, 114]) = [41] := by kernel_rfl
theorem Tryz.tsize : Tryz.prog.types.size = 395 := by kernel_rfl
abbrev laidL : List (String × DataW Unit) := [("errors.errorType", Rows.laid_errors_errorType)]
/-- What the condition gives a walk: the variable's one cell. -/
theorem handle_of_laid {W : World} (h : laidMetH Tryz.prog laidL W) : W.cell? ⟨0, 0, none⟩ = some (.iface 251 (.agg #[.pointer (some ⟨1, 41, none⟩)])) := by
  have h' : laidMet Tryz.prog [] W ∧ handlesMet Tryz.prog laidL W := h
  obtain ⟨name, u, ty, e1, e2, e3, e4, e5⟩ := h'.2 _ (List.mem_singleton.2 rfl)
  have en : name = [101, 114, 114, 111, 114] := (Option.some.inj e1).symm
  subst en
  obtain rfl := Option.some.inj (Tryz.rtyp.symm.trans e2)
  have hm : ty ∈ (List.range 395).filter fun t => Tryz.prog.rowNamed t [101, 114, 114, 111, 114] := List.mem_filter.2 ⟨List.mem_range.2 (by rw [← Tryz.tsize]; exact e3), e4⟩
  rw [Tryz.oneRow] at hm
  obtain rfl := List.mem_singleton.1 hm
  have hh : typeHandle Tryz.prog 41 = .pointer (some ⟨1, 41, none⟩) := by kernel_rfl
  rw [hh] at e5
  simpa using World.var?_cell Tryz.et e5 0
/-- A world that meets the condition: the settled one, the variable's cell laid. -/
def laidWorld (P : Program) (os : Os) : World :=
  let w0 := World.holding P os ⟨#[], #[], []⟩
  { w0 with heap := w0.heap.modify 0 fun
      | .cells _ t frozen => .cells #[.iface 251 (.agg #[.pointer (some ⟨1, 41, none⟩)])] t frozen
      | o => o }
theorem laidWorld_met (os : Os) (args : Array Value) : laidMetH Tryz.prog laidL ((laidWorld Tryz.prog os).forCall (fun _ _ => 0) ⟨#[], args, []⟩).memory :=
  laidMetH_of_parts (laidMet_nil _ _) (by kernel_rfl)
theorem trodAll_below {H : Type} {enc : TypeId × Value → H} {P : Program} (hl : laidOutB P = true) {W W' : World} (hb : Below W.heap.size W W') :
    ∀ {ts : List TypeId} {vs : List Value} {ds : List (DataW H)} {ps : List MemPlace}, (∀ t ∈ ts, P.readableRec t = true ∧ t < P.types.size) → DataW.TrodAll enc P W 0 (fun _ => true) true ts vs ds ps →
      (∀ x ∈ ps, x.block < W.heap.size) → DataW.TrodAll enc P W' 0 (fun b => decide (b < W.heap.size)) true ts vs ds ps
  | [], [], [], _, _, h, _ => h
  | t :: ts, v :: vs, d :: ds, ps, hr, ⟨p, q, h1, h2, e⟩, hx => by
    subst e
    exact ⟨p, q, Below.trod hl (hr t (by simp)).1 (hr t (by simp)).2 h1 hb (fun x hx' => hx x (by simp [hx'])), trodAll_below hl hb (fun t' ht' => hr t' (by simp [ht'])) h2 (fun x hx' => hx x (by simp [hx'])), rfl⟩
  | [], _ :: _, _, _, _, h, _ => by cases h
  | [], [], _ :: _, _, _, h, _ => by cases h
  | _ :: _, [], _, _, _, h, _ => by cases h
  | _ :: _, _ :: _, [], _, _, h, _ => by cases h
/-- The end of a law's row: it answered true, and below the heap's old end nothing has turned. -/
theorem law_post {H : Type} {enc : TypeId × Value → H} {P : Program} {f : Func} {s : ChangeSpec} {W W' : World} {args : Array Value} {ds : List (DataW H)} {before : List MemPlace} {tb : TypeId}
    (hl : laidOutB P = true) (hr : ∀ t ∈ f.params.toList, P.readableRec t = true ∧ t < P.types.size) (hres : f.resultTypes = #[tb]) (htb : P.underlying tb = some .bool) (hv : s.vars = [])
    (hfn : s.fn H (ds ++ []) = { results := [.lit (.bool true)], args := ds }) (hW : DataW.Whole enc P f.params.toList s.vars false W args.toList ds [] before) (hb : Below W.heap.size W W') :
    s.post enc P f false true false false W args (.bool true) W' := by
  have hW' := hW
  obtain ⟨p, q, hA, hV, rfl, hfz, hnd⟩ := hW
  refine ⟨ds, [], p ++ q, [], p, [], hW', ?_, ?_, ?_, hb.frame _, fun h => by cases h⟩
  · rw [hfn, hres]
    exact trodAll_mk1 (shut_bool htb true)
  · rw [hfn]
    exact trodAll_below hl hb hr hA (fun x hx => by simpa using hW'.lt x (by simp [hx]))
  · rw [hfn, hv]; rfl
end Go.Proofs.YtnajhjmdpaeelaaGreatDoor

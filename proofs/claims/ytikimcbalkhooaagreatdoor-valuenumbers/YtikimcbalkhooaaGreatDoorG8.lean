/- Texts that the others stand on. -/
import Derived.Test.YtikimcbalkhooaaGreatDoorProg
import Derived.WalkKit
import Derived.LaidEql
import Derived.Stop.Asserts
import Derived.RowKitTokens
import Derived.Elder7
import Derived.Deep.LoopGhost
import Derived.Defers
import Derived.Recover
namespace Go.Proofs.YtikimcbalkhooaaGreatDoor
open Go.RowKit Go.Extern.Stop Go.Stop Go.Extern
theorem Tryz.size : Tryz.prog.types.size = 327 := by kernel_rfl
theorem Tryz.valueOf41 (t : Addr) (w : World) : (ReflectliteValue.unpack (.iface 112 (.pointer (some t)))).run Tryz.prog w
    = .ok (.agg #[.pointer (some ⟨2, 112, none⟩), .pointer (some ⟨w.heap.size, 0, none⟩), .int .u64 150]) (w.alloc (.cells #[.pointer (some t)] 112)) := by kernel_rfl
theorem Tryz.valueOf38 (t : Addr) (w : World) : (ReflectliteValue.unpack (.iface 113 (.pointer (some t)))).run Tryz.prog w
    = .ok (.agg #[.pointer (some ⟨2, 113, none⟩), .pointer (some ⟨w.heap.size, 0, none⟩), .int .u64 150]) (w.alloc (.cells #[.pointer (some t)] 113)) := by kernel_rfl
theorem Tryz.valueOf36 (e : Addr) (w : World) : (ReflectliteValue.unpack (.iface 75 (.pointer (some e)))).run Tryz.prog w
    = .ok (.agg #[.pointer (some ⟨2, 75, none⟩), .pointer (some ⟨w.heap.size, 0, none⟩), .int .u64 150]) (w.alloc (.cells #[.pointer (some e)] 75)) := by kernel_rfl
theorem Tryz.valueOf22 (c : Int) (w : World) : (ReflectliteValue.unpack (.iface 47 (.int .i64 c))).run Tryz.prog w
    = .ok (.agg #[.pointer (some ⟨2, 47, none⟩), .pointer (some ⟨w.heap.size, 0, none⟩), .int .u64 130]) (w.alloc (.cells #[.int .i64 c] 47)) := by kernel_rfl
theorem Tryz.type41 (a : Addr) (w : World) : (ReflectliteValue.methodAny (ReflectliteValue.valueError "reflectlite.Value.Type" 0) (fun t _ _ _ => ReflectliteType.toType t) #[.agg #[.pointer (some ⟨2, 112, none⟩), .pointer (some a), .int .u64 150]]).run Tryz.prog w
    = .ok (.iface 228 (.agg #[.pointer (some ⟨2, 112, none⟩)])) w := by kernel_rfl
theorem Tryz.type38 (a : Addr) (w : World) : (ReflectliteValue.methodAny (ReflectliteValue.valueError "reflectlite.Value.Type" 0) (fun t _ _ _ => ReflectliteType.toType t) #[.agg #[.pointer (some ⟨2, 113, none⟩), .pointer (some a), .int .u64 150]]).run Tryz.prog w
    = .ok (.iface 228 (.agg #[.pointer (some ⟨2, 113, none⟩)])) w := by kernel_rfl
theorem Tryz.methodKind (h : Value) (w : World) : (Go.method 427 228 (.agg #[h]) "Kind").run Tryz.prog w = .ok (258, h) w := by kernel_rfl
theorem Tryz.methodElem (h : Value) (w : World) : (Go.method 427 228 (.agg #[h]) "Elem").run Tryz.prog w = .ok (272, .agg #[h]) w := by kernel_rfl
theorem Tryz.methodImplements (h : Value) (w : World) : (Go.method 427 228 (.agg #[h]) "Implements").run Tryz.prog w = .ok (273, .agg #[h]) w := by kernel_rfl
theorem Tryz.methodAssignableTo (h : Value) (w : World) : (Go.method 427 228 (.agg #[h]) "AssignableTo").run Tryz.prog w = .ok (270, .agg #[h]) w := by kernel_rfl
theorem Tryz.methodUnwrap (v : Value) (w : World) : (Go.method 427 75 v "Unwrap").run Tryz.prog w = .ok (264, v) w := by kernel_rfl
theorem Tryz.kind41 (w : World) : ((ReflectliteType.abiMethod fun t => (fun a : Nat => Value.int IntKind.u8 (a : Int)) <$> Rtype.kind t) #[.pointer (some ⟨2, 112, none⟩)]).run Tryz.prog w = .ok (.int .u8 22) w := by kernel_rfl
theorem Tryz.kind38 (w : World) : ((ReflectliteType.abiMethod fun t => (fun a : Nat => Value.int IntKind.u8 (a : Int)) <$> Rtype.kind t) #[.pointer (some ⟨2, 113, none⟩)]).run Tryz.prog w = .ok (.int .u8 22) w := by kernel_rfl
theorem Tryz.kind36 (w : World) : ((ReflectliteType.abiMethod fun t => (fun a : Nat => Value.int IntKind.u8 (a : Int)) <$> Rtype.kind t) #[.pointer (some ⟨2, 75, none⟩)]).run Tryz.prog w = .ok (.int .u8 22) w := by kernel_rfl
theorem Tryz.kind22 (w : World) : ((ReflectliteType.abiMethod fun t => (fun a : Nat => Value.int IntKind.u8 (a : Int)) <$> Rtype.kind t) #[.pointer (some ⟨2, 47, none⟩)]).run Tryz.prog w = .ok (.int .u8 2) w := by kernel_rfl
theorem Tryz.elem41 (w : World) : (ReflectliteType.method ReflectliteType.elem #[.agg #[.pointer (some ⟨2, 112, none⟩)]]).run Tryz.prog w = .ok (.iface 228 (.agg #[.pointer (some ⟨2, 47, none⟩)])) w := by kernel_rfl
theorem Tryz.elem38 (w : World) : (ReflectliteType.method ReflectliteType.elem #[.agg #[.pointer (some ⟨2, 113, none⟩)]]).run Tryz.prog w = .ok (.iface 228 (.agg #[.pointer (some ⟨2, 75, none⟩)])) w := by kernel_rfl
theorem Tryz.implements22 (w : World) : (ReflectliteType.relation "Implements" ReflectliteType.implements_ #[.agg #[.pointer (some ⟨2, 47, none⟩)], .iface 228 (.agg #[.pointer (some ⟨2, 27, none⟩)])]).run Tryz.prog w = .ok (.bool true) w := by kernel_rfl
theorem Tryz.implements36 (w : World) : (ReflectliteType.relation "Implements" ReflectliteType.implements_ #[.agg #[.pointer (some ⟨2, 75, none⟩)], .iface 228 (.agg #[.pointer (some ⟨2, 27, none⟩)])]).run Tryz.prog w = .ok (.bool true) w := by kernel_rfl
theorem Tryz.typeOf22 (v : Value) (w : World) : (ReflectliteType.typeOf #[.iface 47 v]).run Tryz.prog w = .ok (.iface 228 (.agg #[.pointer (some ⟨2, 47, none⟩)])) w := by kernel_rfl
theorem Tryz.typeOf36 (v : Value) (w : World) : (ReflectliteType.typeOf #[.iface 75 v]).run Tryz.prog w = .ok (.iface 228 (.agg #[.pointer (some ⟨2, 75, none⟩)])) w := by kernel_rfl
theorem Tryz.assign22_22 (w : World) : (ReflectliteType.relation "AssignableTo" ReflectliteType.assignableTo #[.agg #[.pointer (some ⟨2, 47, none⟩)], .iface 228 (.agg #[.pointer (some ⟨2, 47, none⟩)])]).run Tryz.prog w = .ok (.bool true) w := by kernel_rfl
theorem Tryz.assign36_22 (w : World) : (ReflectliteType.relation "AssignableTo" ReflectliteType.assignableTo #[.agg #[.pointer (some ⟨2, 75, none⟩)], .iface 228 (.agg #[.pointer (some ⟨2, 47, none⟩)])]).run Tryz.prog w = .ok (.bool false) w := by kernel_rfl
theorem Tryz.assign36_36 (w : World) : (ReflectliteType.relation "AssignableTo" ReflectliteType.assignableTo #[.agg #[.pointer (some ⟨2, 75, none⟩)], .iface 228 (.agg #[.pointer (some ⟨2, 75, none⟩)])]).run Tryz.prog w = .ok (.bool true) w := by kernel_rfl
theorem Tryz.noAs36 (v : Value) (xT : TypeId) (w : World) : (Instr.typeAssert (.iface 75 v) xT 233 true).run Tryz.prog w = .ok (.tuple #[.nilIface, .bool false]) w := run_typeAssert_lacksB Tryz.underlying233 (by kernel_rfl) (by kernel_rfl) v xT w
theorem Tryz.hasUnwrap36 (v : Value) (xT : TypeId) (w : World) : (Instr.typeAssert (.iface 75 v) xT 236 true).run Tryz.prog w = .ok (.tuple #[.iface 75 v, .bool true]) w := run_typeAssert_hasB Tryz.underlying236 (by kernel_rfl) v xT w
theorem Tryz.parts41 (a : Addr) (w : World) : (ReflectliteValue.parts (.agg #[.pointer (some ⟨2, 112, none⟩), .pointer (some a), .int .u64 150])).run Tryz.prog w = .ok (some (112, a, 150)) w := by kernel_rfl
theorem Tryz.parts38 (a : Addr) (w : World) : (ReflectliteValue.parts (.agg #[.pointer (some ⟨2, 113, none⟩), .pointer (some a), .int .u64 150])).run Tryz.prog w = .ok (some (113, a, 150)) w := by kernel_rfl
theorem Tryz.isNil41 (a p : Addr) (W : World) (ha : W.cell? a = some (.pointer (some p))) :
    (ReflectliteValue.method (ReflectliteValue.valueError "reflectlite.Value.IsNil" 0) ReflectliteValue.isNil #[.agg #[.pointer (some ⟨2, 112, none⟩), .pointer (some a), .int .u64 150]]).run Tryz.prog W = .ok (.bool false) W := by
  change Sem.run Tryz.prog (ReflectliteValue.parts _ >>= _) W = _
  simp only [Array.getLit, List.getElem_toArray, List.getElem_cons_zero, Sem.run_bind, Tryz.parts41, Result.andThen]
  simp [ReflectliteValue.isNil, loadVar, isAgg, underlying, Tryz.underlying112, ha, Result.andThen]
theorem Tryz.isNil38 (a p : Addr) (W : World) (ha : W.cell? a = some (.pointer (some p))) :
    (ReflectliteValue.method (ReflectliteValue.valueError "reflectlite.Value.IsNil" 0) ReflectliteValue.isNil #[.agg #[.pointer (some ⟨2, 113, none⟩), .pointer (some a), .int .u64 150]]).run Tryz.prog W = .ok (.bool false) W := by
  change Sem.run Tryz.prog (ReflectliteValue.parts _ >>= _) W = _
  simp only [Array.getLit, List.getElem_toArray, List.getElem_cons_zero, Sem.run_bind, Tryz.parts38, Result.andThen]
  simp [ReflectliteValue.isNil, loadVar, isAgg, underlying, Tryz.underlying113, ha, Result.andThen]
theorem Tryz.elemOf41 (w : World) : (Rtype.elem? 112).run Tryz.prog w = .ok (some 47) w := by kernel_rfl
theorem Tryz.elemOf38 (w : World) : (Rtype.elem? 113).run Tryz.prog w = .ok (some 75) w := by kernel_rfl
theorem Tryz.mk22 (p : Addr) (w : World) : (ReflectliteValue.mk 47 p ReflectliteValue.flagAddr).run Tryz.prog w = .ok (.agg #[.pointer (some ⟨2, 47, none⟩), .pointer (some p), .int .u64 386]) w := by kernel_rfl
theorem Tryz.mk36 (p : Addr) (w : World) : (ReflectliteValue.mk 75 p ReflectliteValue.flagAddr).run Tryz.prog w = .ok (.agg #[.pointer (some ⟨2, 75, none⟩), .pointer (some p), .int .u64 406]) w := by kernel_rfl
theorem Tryz.elemV41 (a p : Addr) (W : World) (ha : W.cell? a = some (.pointer (some p))) :
    (ReflectliteValue.method (ReflectliteValue.valueError "reflectlite.Value.Elem" 0) ReflectliteValue.elem #[.agg #[.pointer (some ⟨2, 112, none⟩), .pointer (some a), .int .u64 150]]).run Tryz.prog W
      = .ok (.agg #[.pointer (some ⟨2, 47, none⟩), .pointer (some p), .int .u64 386]) W := by
  change Sem.run Tryz.prog (ReflectliteValue.parts _ >>= _) W = _
  simp only [Array.getLit, List.getElem_toArray, List.getElem_cons_zero, Sem.run_bind, Tryz.parts41, Result.andThen]
  simp [ReflectliteValue.elem, loadVar, isAgg, underlying, Tryz.underlying112, ha, Result.andThen, Tryz.elemOf41, Tryz.mk22]
theorem Tryz.elemV38 (a p : Addr) (W : World) (ha : W.cell? a = some (.pointer (some p))) :
    (ReflectliteValue.method (ReflectliteValue.valueError "reflectlite.Value.Elem" 0) ReflectliteValue.elem #[.agg #[.pointer (some ⟨2, 113, none⟩), .pointer (some a), .int .u64 150]]).run Tryz.prog W
      = .ok (.agg #[.pointer (some ⟨2, 75, none⟩), .pointer (some p), .int .u64 406]) W := by
  change Sem.run Tryz.prog (ReflectliteValue.parts _ >>= _) W = _
  simp only [Array.getLit, List.getElem_toArray, List.getElem_cons_zero, Sem.run_bind, Tryz.parts38, Result.andThen]
  simp [ReflectliteValue.elem, loadVar, isAgg, underlying, Tryz.underlying113, ha, Result.andThen, Tryz.elemOf38, Tryz.mk36]
theorem Tryz.parts36a (a : Addr) (w : World) : (ReflectliteValue.parts (.agg #[.pointer (some ⟨2, 75, none⟩), .pointer (some a), .int .u64 406])).run Tryz.prog w = .ok (some (75, a, 406)) w := by kernel_rfl
theorem Tryz.parts36 (a : Addr) (w : World) : (ReflectliteValue.parts (.agg #[.pointer (some ⟨2, 75, none⟩), .pointer (some a), .int .u64 150])).run Tryz.prog w = .ok (some (75, a, 150)) w := by kernel_rfl
theorem Tryz.parts22a (a : Addr) (w : World) : (ReflectliteValue.parts (.agg #[.pointer (some ⟨2, 47, none⟩), .pointer (some a), .int .u64 386])).run Tryz.prog w = .ok (some (47, a, 386)) w := by kernel_rfl
theorem Tryz.parts22 (a : Addr) (w : World) : (ReflectliteValue.parts (.agg #[.pointer (some ⟨2, 47, none⟩), .pointer (some a), .int .u64 130])).run Tryz.prog w = .ok (some (47, a, 130)) w := by kernel_rfl
theorem Tryz.direct36 (w : World) : (Rtype.directlyAssignable 75 75).run Tryz.prog w = .ok true w := by kernel_rfl
theorem Tryz.direct22 (w : World) : (Rtype.directlyAssignable 47 47).run Tryz.prog w = .ok true w := by kernel_rfl
theorem Tryz.set36 (ta b e : Addr) (old : Value) (W : World) (hb : W.cell? b = some (.pointer (some e))) (ht : W.cell? ta = some old) (hf : W.frozen? ta = false) :
    (ReflectliteValue.set #[.agg #[.pointer (some ⟨2, 75, none⟩), .pointer (some ta), .int .u64 406], .agg #[.pointer (some ⟨2, 75, none⟩), .pointer (some b), .int .u64 150]]).run Tryz.prog W
      = .ok (.tuple #[]) (W.setCell ta (.pointer (some e))) := by
  change Sem.run Tryz.prog (ReflectliteValue.parts _ >>= _) W = _
  simp only [Array.getLit, List.getElem_toArray, List.getElem_cons_zero, List.getElem_cons_succ, Sem.run_bind, Tryz.parts36a, Tryz.parts36, Result.andThen]
  simp [ReflectliteValue.flagAddr, loadVar, isAgg, underlying, Tryz.underlying75, hb, Result.andThen, Tryz.direct36, storeVar, Value.cells, storeCells, Addr.add]
  rw [run_store Tryz.prog W ta _ _ (by rfl)]
  simp [ht, hf]
theorem Tryz.set22 (ta b : Addr) (c : Int) (old : Value) (W : World) (hb : W.cell? b = some (.int .i64 c)) (ht : W.cell? ta = some old) (hf : W.frozen? ta = false) :
    (ReflectliteValue.set #[.agg #[.pointer (some ⟨2, 47, none⟩), .pointer (some ta), .int .u64 386], .agg #[.pointer (some ⟨2, 47, none⟩), .pointer (some b), .int .u64 130]]).run Tryz.prog W
      = .ok (.tuple #[]) (W.setCell ta (.int .i64 c)) := by
  change Sem.run Tryz.prog (ReflectliteValue.parts _ >>= _) W = _
  simp only [Array.getLit, List.getElem_toArray, List.getElem_cons_zero, List.getElem_cons_succ, Sem.run_bind, Tryz.parts22a, Tryz.parts22, Result.andThen]
  simp [ReflectliteValue.flagAddr, loadVar, isAgg, underlying, Tryz.underlying47, hb, Result.andThen, Tryz.direct22, storeVar, Value.cells, storeCells, Addr.add]
  rw [run_store Tryz.prog W ta _ _ (by rfl)]
  simp [ht, hf]
/-- An error in the world W: the root R under n faults. -/
def ChainN (W : World) (R : Value) : Nat → Value → Prop
  | 0, E => E = R
  | n + 1, E => ∃ (b : Nat) (s : ByteArray) (E1 : Value), E = .iface 75 (.pointer (some ⟨b, 0, none⟩)) ∧ W.cell? ⟨b, 0, none⟩ = some (.string s) ∧ W.cell? ⟨b, 1, none⟩ = some E1 ∧ ChainN W R n E1
def Chain (W : World) (R E : Value) (n : Nat) : Prop := ChainN W R n E
theorem Chain.leaf {W : World} {R : Value} : Chain W R R 0 := rfl
theorem Chain.wrap {W : World} {R : Value} (b : Nat) (s : ByteArray) (E : Value) (n : Nat) (h1 : W.cell? ⟨b, 0, none⟩ = some (.string s)) (h2 : W.cell? ⟨b, 1, none⟩ = some E) (h3 : Chain W R E n) : Chain W R (.iface 75 (.pointer (some ⟨b, 0, none⟩))) (n + 1) :=
  ⟨b, s, E, rfl, h1, h2, h3⟩
theorem Chain.parts {W : World} {R E : Value} {n : Nat} (h : Chain W R E n) :
    (n = 0 ∧ R = E) ∨ ∃ b s E1 k, n = k + 1 ∧ E = .iface 75 (.pointer (some ⟨b, 0, none⟩)) ∧ W.cell? ⟨b, 0, none⟩ = some (.string s) ∧ W.cell? ⟨b, 1, none⟩ = some E1 ∧ Chain W R E1 k := by
  cases n with
  | zero => exact Or.inl ⟨rfl, Eq.symm h⟩
  | succ k =>
    obtain ⟨b, s, E1, rfl, h1, h2, h3⟩ := h
    exact Or.inr ⟨b, s, E1, k, rfl, rfl, h1, h2, h3⟩
theorem lt_of_cell? {W : World} {a : Addr} {v : Value} (h : W.cell? a = some v) : a.block < W.heap.size := by
  rcases Nat.lt_or_ge a.block W.heap.size with h1 | h1
  · exact h1
  · simp [World.cell?, Array.getElem?_eq_none h1] at h
theorem Chain.keep {W W' : World} {B : Nat} (hb : Below B W W') (hB : W.heap.size ≤ B) {R : Value} : ∀ {n : Nat} {E : Value}, Chain W R E n → Chain W' R E n
  | 0, _, h => h
  | n + 1, _, ⟨b, s, E1, e, h1, h2, h3⟩ =>
    ⟨b, s, E1, e, by rw [hb.cell (p := ⟨b, 0, none⟩) (Nat.lt_of_lt_of_le (lt_of_cell? h1) hB)]; exact h1,
      by rw [hb.cell (p := ⟨b, 1, none⟩) (Nat.lt_of_lt_of_le (lt_of_cell? h2) hB)]; exact h2, Chain.keep hb hB (n := n) h3⟩
theorem Chain.iface {W : World} {R E : Value} {n : Nat} (h : Chain W R E n) (hR : ∃ u v, R = .iface u v) : ∃ u v, E = .iface u v := by
  rcases h.parts with ⟨_, rfl⟩ | ⟨b, s, E1, k, _, rfl, _⟩
  · exact hR
  · exact ⟨_, _, rfl⟩
abbrev codeV (c : Int) : Value := .iface 47 (.int .i64 c)
/-- reflectlite's Value of the target, as its three cells. -/
abbrev rv (t : Nat) (a : Addr) : Obj := .cells #[.pointer (some ⟨2, t, none⟩), .pointer (some a), .int .u64 150] 162
abbrev rg (t : Nat) (a : Addr) : Value := .agg #[.pointer (some ⟨2, t, none⟩), .pointer (some a), .int .u64 150]
abbrev rt (t : Nat) : Value := .iface 228 (.agg #[.pointer (some ⟨2, t, none⟩)])
set_option maxHeartbeats 1000000 in
set_option maxRecDepth 100000 in
theorem as22 (E : Value) (c : Int) (n : Nat) (t a : Addr) (old : Value) (w : World) (hch : Chain w (codeV c) E n) (ha : w.cell? a = some (.pointer (some t))) (ht0 : w.cell? t = some old) (hf0 : w.frozen? t = false) :
    Calls Tryz.prog 122 #[E, .iface 112 (.pointer (some t)), rg 112 a, rt 47] w fun e w' => e = .returned (.bool true) ∧ w' = ((w.alloc (rv 112 a)).alloc (.cells #[.int .i64 c] 47)).setCell t (.int .i64 c) := by
  have h36 := @run_callFunc_extern Tryz.prog 161 _ ReflectliteType.typeOf Tryz.func161 (by kernel_rfl) (by kernel_rfl) (by kernel_rfl) (by kernel_rfl)
  have h72 := @run_callFunc_extern Tryz.prog 270 _ (ReflectliteType.relation "AssignableTo" ReflectliteType.assignableTo) Tryz.func270 (by kernel_rfl) (by kernel_rfl) (by kernel_rfl) (by kernel_rfl)
  have h32 := @run_callFunc_extern Tryz.prog 119 _ (fun args => ReflectliteValue.unpack (args.getD 0 (.tuple #[]))) Tryz.func119 (by kernel_rfl) (by kernel_rfl) (by kernel_rfl) (by kernel_rfl)
  have h43 := @run_callFunc_extern Tryz.prog 162 _ (ReflectliteValue.method (ReflectliteValue.valueError "reflectlite.Value.Elem" 0) ReflectliteValue.elem) Tryz.func162 (by kernel_rfl) (by kernel_rfl) (by kernel_rfl) (by kernel_rfl)
  have h44 := @run_callFunc_extern Tryz.prog 163 _ ReflectliteValue.set Tryz.func163 (by kernel_rfl) (by kernel_rfl) (by kernel_rfl) (by kernel_rfl)
  have t22 := Tryz.typeOf22
  have t36 := Tryz.typeOf36
  have mA := Tryz.methodAssignableTo
  have a22 := Tryz.assign22_22
  have a36 := Tryz.assign36_22
  have v22 := Tryz.valueOf22
  have nA := Tryz.noAs36
  have hU := Tryz.hasUnwrap36
  have mU := Tryz.methodUnwrap
  have hal := lt_of_cell? ha
  have htl := lt_of_cell? ht0
  have el := Tryz.elemV41 a t (w.alloc (rv 112 a)) (by rw [World.cell?_alloc_lt _ _ a hal]; exact ha)
  have st := Tryz.set22 t ⟨w.heap.size + 1, 0, none⟩ c old ((w.alloc (rv 112 a)).alloc (.cells #[.int .i64 c] 47))
    (by rw [World.cell?_alloc_at _ _ _ _ (by simp)]; rfl)
    (by rw [World.cell?_alloc_lt _ _ t (by simp; omega), World.cell?_alloc_lt _ _ t htl]; exact ht0)
    (by rw [World.frozen?_alloc_old _ _ t (by simp; omega), World.frozen?_alloc_old _ _ t (Nat.ne_of_lt htl)]; exact hf0)
  go_enter Tryz.func122, Tryz.ntmps122
  go_wp2
  go_loopg [0] n (fun k E' wr => wr = w.alloc (rv 112 a) ∧ Chain w (codeV c) E' k)
  case atStart => exact ⟨rfl, hch⟩
  case round =>
    obtain ⟨rfl, hc'⟩ := hrel
    rcases hc'.parts with ⟨rfl, rfl⟩ | ⟨b, s, E1, k, rfl, rfl, h1, h2, h3⟩
    · clear hc'
      go_wp2
      go_ret
      exact ⟨rfl, rfl⟩
    · clear hc'
      obtain ⟨u1, v1, rfl⟩ := h3.iface ⟨_, _, rfl⟩
      have h2' : (w.alloc (rv 112 a)).cell? ⟨b, 1, none⟩ = some (.iface u1 v1) := by rw [World.cell?_alloc_lt _ _ _ (lt_of_cell? h2)]; exact h2
      have HC : Hid (Chain w (codeV c) (.iface u1 v1) k) := h3
      clear h3
      go_wp2
      go_roundg k
      case measure => omega
      case rel => exact ⟨rfl, HC.out⟩
set_option maxHeartbeats 1000000 in
set_option maxRecDepth 100000 in
theorem as36 (e t a : Addr) (old : Value) (w : World) (ha : w.cell? a = some (.pointer (some t))) (ht0 : w.cell? t = some old) (hf0 : w.frozen? t = false) :
    Calls Tryz.prog 122 #[.iface 75 (.pointer (some e)), .iface 113 (.pointer (some t)), rg 113 a, rt 75] w fun ev w' => ev = .returned (.bool true) ∧ w' = ((w.alloc (rv 113 a)).alloc (.cells #[.pointer (some e)] 75)).setCell t (.pointer (some e)) := by
  have h36 := @run_callFunc_extern Tryz.prog 161 _ ReflectliteType.typeOf Tryz.func161 (by kernel_rfl) (by kernel_rfl) (by kernel_rfl) (by kernel_rfl)
  have h72 := @run_callFunc_extern Tryz.prog 270 _ (ReflectliteType.relation "AssignableTo" ReflectliteType.assignableTo) Tryz.func270 (by kernel_rfl) (by kernel_rfl) (by kernel_rfl) (by kernel_rfl)
  have h32 := @run_callFunc_extern Tryz.prog 119 _ (fun args => ReflectliteValue.unpack (args.getD 0 (.tuple #[]))) Tryz.func119 (by kernel_rfl) (by kernel_rfl) (by kernel_rfl) (by kernel_rfl)
  have h43 := @run_callFunc_extern Tryz.prog 162 _ (ReflectliteValue.method (ReflectliteValue.valueError "reflectlite.Value.Elem" 0) ReflectliteValue.elem) Tryz.func162 (by kernel_rfl) (by kernel_rfl) (by kernel_rfl) (by kernel_rfl)
  have h44 := @run_callFunc_extern Tryz.prog 163 _ ReflectliteValue.set Tryz.func163 (by kernel_rfl) (by kernel_rfl) (by kernel_rfl) (by kernel_rfl)
  have t36 := Tryz.typeOf36
  have mA := Tryz.methodAssignableTo
  have a36 := Tryz.assign36_36
  have v36 := Tryz.valueOf36
  have hal := lt_of_cell? ha
  have htl := lt_of_cell? ht0
  have el := Tryz.elemV38 a t (w.alloc (rv 113 a)) (by rw [World.cell?_alloc_lt _ _ a hal]; exact ha)
  have st := Tryz.set36 t ⟨w.heap.size + 1, 0, none⟩ e old ((w.alloc (rv 113 a)).alloc (.cells #[.pointer (some e)] 75))
    (by rw [World.cell?_alloc_at _ _ _ _ (by simp)]; rfl)
    (by rw [World.cell?_alloc_lt _ _ t (by simp; omega), World.cell?_alloc_lt _ _ t htl]; exact ht0)
    (by rw [World.frozen?_alloc_old _ _ t (by simp; omega), World.frozen?_alloc_old _ _ t (Nat.ne_of_lt htl)]; exact hf0)
  go_enter Tryz.func122, Tryz.ntmps122
  go_wp2
  refine wp_loop_rounds 1 ?_
  rw [rounds_succ]
  go_wp2
  go_ret
  exact ⟨rfl, rfl⟩
/-- package errors' errorType, as the program's text lays it. -/
abbrev Laid (w : World) : Prop := w.cell? ⟨0, 0, none⟩ = some (rt 27)
theorem Laid.keep {w w' : World} {B : Nat} (h : Laid w) (hb : Below B w w') (hB : 0 < B) : Laid w' := by
  show w'.cell? ⟨0, 0, none⟩ = _
  rw [hb.cell (p := ⟨0, 0, none⟩) hB]; exact h
abbrev preW (w : World) (T : Nat) (t : Addr) : World := (w.alloc (.cells #[.pointer (some t)] T)).alloc (rv T ⟨w.heap.size, 0, none⟩)
theorem preW_below (w : World) (T : Nat) (t : Addr) : Below w.heap.size w (preW w T t) :=
  ((Below.refl _ _).alloc (Nat.le_refl _) _).alloc (by simp) _
set_option maxHeartbeats 1000000 in
set_option maxRecDepth 100000 in
theorem As41 (u : TypeId) (v : Value) (t : Addr) (w : World) (r : Bool) (Q : World → Prop) (hg : Laid w)
    (h : Calls Tryz.prog 122 #[.iface u v, .iface 112 (.pointer (some t)), rg 112 ⟨w.heap.size, 0, none⟩, rt 47] (preW w 112 t) fun e w' => e = .returned (.bool r) ∧ Q w') :
    Calls Tryz.prog 78 #[.iface u v, .iface 112 (.pointer (some t))] w fun e w' => e = .returned (.bool r) ∧ Q w' := by
  have h32 := @run_callFunc_extern Tryz.prog 119 _ (fun args => ReflectliteValue.unpack (args.getD 0 (.tuple #[]))) Tryz.func119 (by kernel_rfl) (by kernel_rfl) (by kernel_rfl) (by kernel_rfl)
  have h33 := @run_callFunc_extern Tryz.prog 120 _ (ReflectliteValue.methodAny (ReflectliteValue.valueError "reflectlite.Value.Type" 0) (fun t _ _ _ => ReflectliteType.toType t)) Tryz.func120 (by kernel_rfl) (by kernel_rfl) (by kernel_rfl) (by kernel_rfl)
  have h34 := @run_callFunc_extern Tryz.prog 121 _ (ReflectliteValue.method (ReflectliteValue.valueError "reflectlite.Value.IsNil" 0) ReflectliteValue.isNil) Tryz.func121 (by kernel_rfl) (by kernel_rfl) (by kernel_rfl) (by kernel_rfl)
  have h62 := @run_callFunc_extern Tryz.prog 258 _ (ReflectliteType.abiMethod fun t => do pure (.int .u8 (← Rtype.kind t))) Tryz.func258 (by kernel_rfl) (by kernel_rfl) (by kernel_rfl) (by kernel_rfl)
  have h74 := @run_callFunc_extern Tryz.prog 272 _ (ReflectliteType.method ReflectliteType.elem) Tryz.func272 (by kernel_rfl) (by kernel_rfl) (by kernel_rfl) (by kernel_rfl)
  have h75 := @run_callFunc_extern Tryz.prog 273 _ (ReflectliteType.relation "Implements" ReflectliteType.implements_) Tryz.func273 (by kernel_rfl) (by kernel_rfl) (by kernel_rfl) (by kernel_rfl)
  have f6 := Tryz.valueOf41
  have f7 := Tryz.type41
  have mK := Tryz.methodKind
  have mE := Tryz.methodElem
  have mI := Tryz.methodImplements
  have k41 := Tryz.kind41
  have k22 := Tryz.kind22
  have e41 := Tryz.elem41
  have i22 := Tryz.implements22
  have n8 := Tryz.isNil41 ⟨w.heap.size, 0, none⟩ t (preW w 112 t) (by simp)
  have hg2 : Laid (preW w 112 t) := hg.keep (preW_below w 112 t) (lt_of_cell? hg)
  have H : Hid (Calls Tryz.prog 122 #[.iface u v, .iface 112 (.pointer (some t)), rg 112 ⟨w.heap.size, 0, none⟩, rt 47] (preW w 112 t) fun e w' => e = .returned (.bool r) ∧ Q w') := h
  clear h
  go_enter Tryz.func78, Tryz.ntmps78
  go_wp2_with (go_at_call 122; refine H.out.mono ?_; rintro e w' ⟨rfl, hq⟩)
  go_ret
  exact ⟨rfl, hq⟩
set_option maxHeartbeats 1000000 in
set_option maxRecDepth 100000 in
theorem As38 (u : TypeId) (v : Value) (t : Addr) (w : World) (r : Bool) (Q : World → Prop) (hg : Laid w)
    (h : Calls Tryz.prog 122 #[.iface u v, .iface 113 (.pointer (some t)), rg 113 ⟨w.heap.size, 0, none⟩, rt 75] (preW w 113 t) fun e w' => e = .returned (.bool r) ∧ Q w') :
    Calls Tryz.prog 78 #[.iface u v, .iface 113 (.pointer (some t))] w fun e w' => e = .returned (.bool r) ∧ Q w' := by
  have h32 := @run_callFunc_extern Tryz.prog 119 _ (fun args => ReflectliteValue.unpack (args.getD 0 (.tuple #[]))) Tryz.func119 (by kernel_rfl) (by kernel_rfl) (by kernel_rfl) (by kernel_rfl)
  have h33 := @run_callFunc_extern Tryz.prog 120 _ (ReflectliteValue.methodAny (ReflectliteValue.valueError "reflectlite.Value.Type" 0) (fun t _ _ _ => ReflectliteType.toType t)) Tryz.func120 (by kernel_rfl) (by kernel_rfl) (by kernel_rfl) (by kernel_rfl)
  have h34 := @run_callFunc_extern Tryz.prog 121 _ (ReflectliteValue.method (ReflectliteValue.valueError "reflectlite.Value.IsNil" 0) ReflectliteValue.isNil) Tryz.func121 (by kernel_rfl) (by kernel_rfl) (by kernel_rfl) (by kernel_rfl)
  have h62 := @run_callFunc_extern Tryz.prog 258 _ (ReflectliteType.abiMethod fun t => do pure (.int .u8 (← Rtype.kind t))) Tryz.func258 (by kernel_rfl) (by kernel_rfl) (by kernel_rfl) (by kernel_rfl)
  have h74 := @run_callFunc_extern Tryz.prog 272 _ (ReflectliteType.method ReflectliteType.elem) Tryz.func272 (by kernel_rfl) (by kernel_rfl) (by kernel_rfl) (by kernel_rfl)
  have h75 := @run_callFunc_extern Tryz.prog 273 _ (ReflectliteType.relation "Implements" ReflectliteType.implements_) Tryz.func273 (by kernel_rfl) (by kernel_rfl) (by kernel_rfl) (by kernel_rfl)
  have f6 := Tryz.valueOf38
  have f7 := Tryz.type38
  have mK := Tryz.methodKind
  have mE := Tryz.methodElem
  have mI := Tryz.methodImplements
  have k41 := Tryz.kind38
  have k22 := Tryz.kind36
  have e41 := Tryz.elem38
  have i22 := Tryz.implements36
  have n8 := Tryz.isNil38 ⟨w.heap.size, 0, none⟩ t (preW w 113 t) (by simp)
  have hg2 : Laid (preW w 113 t) := hg.keep (preW_below w 113 t) (lt_of_cell? hg)
  have H : Hid (Calls Tryz.prog 122 #[.iface u v, .iface 113 (.pointer (some t)), rg 113 ⟨w.heap.size, 0, none⟩, rt 75] (preW w 113 t) fun e w' => e = .returned (.bool r) ∧ Q w') := h
  clear h
  go_enter Tryz.func78, Tryz.ntmps78
  go_wp2_with (go_at_call 122; refine H.out.mono ?_; rintro e w' ⟨rfl, hq⟩)
  go_ret
  exact ⟨rfl, hq⟩
/-- The target's variable gets v; all else that was there stays; new blocks come. -/
abbrev asW (w : World) (T T' : Nat) (t : Addr) (v : Value) : World := (((preW w T t).alloc (rv T ⟨w.heap.size, 0, none⟩)).alloc (.cells #[v] T')).setCell t v
theorem As_code (E : Value) (c : Int) (n : Nat) (t : Addr) (old : Value) (w : World) (hg : Laid w) (hch : Chain w (codeV c) E n) (ht0 : w.cell? t = some old) (hf0 : w.frozen? t = false) :
    Calls Tryz.prog 78 #[E, .iface 112 (.pointer (some t))] w fun e w' => e = .returned (.bool true) ∧ w' = asW w 112 47 t (.int .i64 c) := by
  have hpre := preW_below w 112 t
  have htl := lt_of_cell? ht0
  obtain ⟨u, v, rfl⟩ := hch.iface ⟨_, _, rfl⟩
  exact As41 u v t w true _ hg (as22 _ c n t ⟨w.heap.size, 0, none⟩ old _ (hch.keep hpre (Nat.le_refl _)) (by simp) (by rw [hpre.cell htl]; exact ht0) (by rw [hpre.frozen htl]; exact hf0))
theorem As_fault (e t : Addr) (old : Value) (w : World) (hg : Laid w) (ht0 : w.cell? t = some old) (hf0 : w.frozen? t = false) :
    Calls Tryz.prog 78 #[.iface 75 (.pointer (some e)), .iface 113 (.pointer (some t))] w fun ev w' => ev = .returned (.bool true) ∧ w' = asW w 113 75 t (.pointer (some e)) := by
  have hpre := preW_below w 113 t
  have htl := lt_of_cell? ht0
  exact As38 75 _ t w true _ hg (as36 e t ⟨w.heap.size, 0, none⟩ old _ (by simp) (by rw [hpre.cell htl]; exact ht0) (by rw [hpre.frozen htl]; exact hf0))
theorem rec41 (w : World) : CallsD Tryz.prog 77 #[] .returning w fun e u' w' => e = .returned (.tuple #[]) ∧ u' = .returning ∧ w' = w := by
  refine callsD_of_wpS Tryz.func77 rfl fun c₀ cs hu => ?_
  apply wpS_region
  cases c₀
  simp_all [wpOpsS, go_sem, recoverD, Tryz.ntmps77, bodyPostS, results, Tryz.results77]
theorem rec42 (w : World) : CallsD Tryz.prog 79 #[] .returning w fun e u' w' => e = .returned (.tuple #[]) ∧ u' = .returning ∧ w' = w := by
  refine callsD_of_wpS Tryz.func79 rfl fun c₀ cs hu => ?_
  apply wpS_region
  cases c₀
  simp_all [wpOpsS, go_sem, recoverD, Tryz.ntmps79, bodyPostS, results, Tryz.results79]
theorem below4 (w : World) (a b c d : Obj) : Below w.heap.size w ((((w.alloc a).alloc b).alloc c).alloc d) :=
  ((((Below.refl _ _).alloc (Nat.le_refl _) _).alloc (by simp) _).alloc (by simp; omega) _).alloc (by simp; omega) _
theorem below5 (w : World) (a b c d e : Obj) : Below w.heap.size w (((((w.alloc a).alloc b).alloc c).alloc d).alloc e) :=
  (below4 w a b c d).alloc (by simp; omega) _
set_option maxHeartbeats 1000000 in
set_option maxRecDepth 100000 in
theorem findCode_code (E : Value) (c : Int) (n : Nat) (w : World) (hg : Laid w) (hch : Chain w (codeV c) E n) :
    Calls Tryz.prog 46 #[E] w fun e w' => e = .returned (.tuple #[.int .i64 c, .bool true]) ∧ Below w.heap.size w w' := by
  have hal : Below w.heap.size w (w.alloc (.cells #[.int .i64 0] 47)) := (Below.refl _ _).alloc (Nat.le_refl _) _
  have HC : Hid (Chain (w.alloc (.cells #[.int .i64 0] 47)) (codeV c) E n) := hch.keep hal (Nat.le_refl _)
  have HG : Hid (Laid (w.alloc (.cells #[.int .i64 0] 47))) := hg.keep hal (lt_of_cell? hg)
  clear hch hg hal
  have hnot : ∀ (x : Bool) (w : World), (Op.unary .not (.bool x)).run Tryz.prog w = .ok (.bool (!x)) w := fun _ _ => rfl
  go_enter_defers Tryz.func46, Tryz.ntmps46
  go_wp2_with (go_at_call 78; refine (As_code _ c n ⟨w.heap.size, 0, none⟩ (.int .i64 0) _ HG.out HC.out (by simp) (by simp)).mono ?_; rintro e w' ⟨rfl, rfl⟩)
  refine leaves_cons (f := 77) (args := #[]) (by simp) (by simp [go_sem]) ?_
  refine (rec41 _).mono ?_
  rintro e u' w'' ⟨rfl, rfl, rfl⟩
  simp [Leaves, settle, results, Tryz.results46, go_sem]
  exact below5 _ _ _ _ _ _
set_option maxHeartbeats 1000000 in
set_option maxRecDepth 100000 in
theorem findFault_fault (a : Addr) (w : World) (hg : Laid w) :
    Calls Tryz.prog 47 #[.iface 75 (.pointer (some a))] w fun e w' => e = .returned (.tuple #[.pointer (some a), .bool true]) ∧ Below w.heap.size w w' := by
  have HG : Hid (Laid (w.alloc (.cells #[.pointer none] 75))) := hg.keep ((Below.refl _ _).alloc (Nat.le_refl _) _) (lt_of_cell? hg)
  clear hg
  have hnot : ∀ (x : Bool) (w : World), (Op.unary .not (.bool x)).run Tryz.prog w = .ok (.bool (!x)) w := fun _ _ => rfl
  go_enter_defers Tryz.func47, Tryz.ntmps47
  go_wp2_with (go_at_call 78; refine (As_fault a ⟨w.heap.size, 0, none⟩ (.pointer none) _ HG.out (by simp) (by simp)).mono ?_; rintro e w' ⟨rfl, rfl⟩)
  refine leaves_cons (f := 79) (args := #[]) (by simp) (by simp [go_sem]) ?_
  refine (rec42 _).mono ?_
  rintro e u' w'' ⟨rfl, rfl, rfl⟩
  simp [Leaves, settle, results, Tryz.results47, go_sem]
  exact below5 _ _ _ _ _ _
abbrev newW (w : World) (s : ByteArray) (E : Value) : World := w.alloc (.cells #[.string s, E] 79)
abbrev newE (w : World) : Value := .iface 75 (.pointer (some ⟨w.heap.size, 0, none⟩))
theorem newW_below (w : World) (s : ByteArray) (E : Value) : Below w.heap.size w (newW w s E) := (Below.refl _ _).alloc (Nat.le_refl _) _
theorem Chain.new {w : World} {R E : Value} {n : Nat} (h : Chain w R E n) (s : ByteArray) : Chain (newW w s E) R (newE w) (n + 1) :=
  .wrap _ s E n (by simp) (by simp) (h.keep (newW_below w s E) (Nat.le_refl _))
theorem New_err (s : ByteArray) (c : Int) (hc : ¬ c = 0) (w : World) : Calls Tryz.prog 24 #[.string s, .int .i64 c] w fun e w' => e = .returned (newE w) ∧ w' = newW w s (codeV c) := by
  have hc' : (c == 0) = false := by simp [hc]
  go_enter Tryz.func24, Tryz.ntmps24
  go_wp2
  go_ret
  exact ⟨rfl, rfl⟩
set_option maxHeartbeats 400000 in
theorem Code_code (E : Value) (c : Int) (n : Nat) (w : World) (hg : Laid w) (hch : Chain w (codeV c) E n) :
    Calls Tryz.prog 13 #[E] w fun e w' => e = .returned (.int .i64 c) ∧ Below w.heap.size w w' := by
  obtain ⟨u, v, rfl⟩ := hch.iface ⟨_, _, rfl⟩
  have HC : Hid (Chain w (codeV c) (.iface u v) n) := hch
  have HG : Hid (Laid w) := hg
  clear hch hg
  go_enter Tryz.func13, Tryz.ntmps13
  go_wp2_with (go_at_call 46; refine (findCode_code _ c n _ HG.out HC.out).mono ?_; rintro e w' ⟨rfl, hb⟩)
  go_ret
  exact ⟨rfl, hb⟩
set_option maxHeartbeats 400000 in
theorem Cmd_fault (b : Nat) (s : ByteArray) (w : World) (hg : Laid w) (hs : w.cell? ⟨b, 0, none⟩ = some (.string s)) : Calls Tryz.prog 14 #[.iface 75 (.pointer (some ⟨b, 0, none⟩))] w fun e w' => e = .returned (.string s) ∧ Below w.heap.size w w' := by
  have HG : Hid (Laid w) := hg
  clear hg
  have hl := lt_of_cell? hs
  go_enter Tryz.func14, Tryz.ntmps14
  go_wp2_with (go_at_call 47; refine (findFault_fault ⟨b, 0, none⟩ _ HG.out).mono ?_; rintro e w' ⟨rfl, hb⟩; have hs' : w'.cell? ⟨b, 0, none⟩ = some (.string s) := by rw [hb.cell hl]; exact hs)
  go_ret
  exact ⟨rfl, hb⟩
end Go.Proofs.YtikimcbalkhooaaGreatDoor

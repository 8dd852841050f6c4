/-
  errors.As by its contracts, at the targets '*api.Code' and '**fault.Fault', over chains of faults of any depth round a code or round another error.
-/
import Derived.Test.YtlapiaoopmhogaaDoorXFacts
namespace Go.Proofs.YtlapiaoopmhogaaDoor
open Go.RowKit Go.Extern.Stop Go.Stop Go.Extern

/-- An error in the world W: the root R under n faults. -/
def ChainN (W : World) (R : Value) : Nat → Value → Prop
  | 0, E => E = R
  | n + 1, E => ∃ (b : Nat) (s : ByteArray) (E1 : Value), E = .iface 73 (.pointer (some ⟨b, 0, none⟩)) ∧ W.cell? ⟨b, 0, none⟩ = some (.string s) ∧ W.cell? ⟨b, 1, none⟩ = some E1 ∧ ChainN W R n E1
def Chain (W : World) (R E : Value) (n : Nat) : Prop := ChainN W R n E
theorem Chain.leaf {W : World} {R : Value} : Chain W R R 0 := rfl
theorem Chain.wrap {W : World} {R : Value} (b : Nat) (s : ByteArray) (E : Value) (n : Nat) (h1 : W.cell? ⟨b, 0, none⟩ = some (.string s)) (h2 : W.cell? ⟨b, 1, none⟩ = some E) (h3 : Chain W R E n) : Chain W R (.iface 73 (.pointer (some ⟨b, 0, none⟩))) (n + 1) :=
  ⟨b, s, E, rfl, h1, h2, h3⟩
theorem Chain.parts {W : World} {R E : Value} {n : Nat} (h : Chain W R E n) :
    (n = 0 ∧ R = E) ∨ ∃ b s E1 k, n = k + 1 ∧ E = .iface 73 (.pointer (some ⟨b, 0, none⟩)) ∧ W.cell? ⟨b, 0, none⟩ = some (.string s) ∧ W.cell? ⟨b, 1, none⟩ = some E1 ∧ Chain W R E1 k := by
  cases n with
  | zero => exact Or.inl ⟨rfl, Eq.symm h⟩
  | succ k =>
    obtain ⟨b, s, E1, rfl, h1, h2, h3⟩ := h
    exact Or.inr ⟨b, s, E1, k, rfl, rfl, h1, h2, h3⟩

theorem lt_of_cell? {W : World} {a : Addr} {v : Value} (h : W.cell? a = some v) : a.block < W.heap.size := by
  rcases Nat.lt_or_ge a.block W.heap.size with h1 | h1
  · exact h1
  · simp [World.cell?, Array.getElem?_eq_none h1] at h

theorem Chain.keep {W W' : World} {B : Nat} (hb : Below B W W') (hB : W.heap.size ≤ B) {R : Value} : ∀ {n : Nat} {E : Value}, Chain W R E n → Chain W' R E n
  | 0, _, h => h
  | n + 1, _, ⟨b, s, E1, e, h1, h2, h3⟩ =>
    ⟨b, s, E1, e, by rw [hb.cell (p := ⟨b, 0, none⟩) (Nat.lt_of_lt_of_le (lt_of_cell? h1) hB)]; exact h1,
      by rw [hb.cell (p := ⟨b, 1, none⟩) (Nat.lt_of_lt_of_le (lt_of_cell? h2) hB)]; exact h2, Chain.keep hb hB (n := n) h3⟩

theorem Chain.iface {W : World} {R E : Value} {n : Nat} (h : Chain W R E n) (hR : ∃ u v, R = .iface u v) : ∃ u v, E = .iface u v := by
  rcases h.parts with ⟨_, rfl⟩ | ⟨b, s, E1, k, _, rfl, _⟩
  · exact hR
  · exact ⟨_, _, rfl⟩

abbrev codeV (c : Int) : Value := .iface 49 (.int .i64 c)
/-- reflectlite's Value of the target, as its three cells. -/
abbrev rv (t : Nat) (a : Addr) : Obj := .cells #[.pointer (some ⟨1, t, none⟩), .pointer (some a), .int .u64 150] 101
abbrev rg (t : Nat) (a : Addr) : Value := .agg #[.pointer (some ⟨1, t, none⟩), .pointer (some a), .int .u64 150]
abbrev rt (t : Nat) : Value := .iface 117 (.agg #[.pointer (some ⟨1, t, none⟩)])

set_option maxHeartbeats 1000000 in
set_option maxRecDepth 100000 in
theorem as22 (E : Value) (c : Int) (n : Nat) (t a : Addr) (old : Value) (w : World) (hch : Chain w (codeV c) E n) (ha : w.cell? a = some (.pointer (some t))) (ht0 : w.cell? t = some old) (hf0 : w.frozen? t = false) :
    Calls Tryd.prog 63 #[E, .iface 83 (.pointer (some t)), rg 83 a, rt 49] w fun e w' => e = .returned (.bool true) ∧ w' = ((w.alloc (rv 83 a)).alloc (.cells #[.int .i64 c] 49)).setCell t (.int .i64 c) := by
  have h36 := @run_callFunc_extern Tryd.prog 70 _ ReflectliteType.typeOf Tryd.func70 (by kernel_rfl) (by kernel_rfl) (by kernel_rfl) (by kernel_rfl)
  have h72 := @run_callFunc_extern Tryd.prog 98 _ (ReflectliteType.relation "AssignableTo" ReflectliteType.assignableTo) Tryd.func98 (by kernel_rfl) (by kernel_rfl) (by kernel_rfl) (by kernel_rfl)
  have h32 := @run_callFunc_extern Tryd.prog 60 _ (fun args => ReflectliteValue.unpack (args.getD 0 (.tuple #[]))) Tryd.func60 (by kernel_rfl) (by kernel_rfl) (by kernel_rfl) (by kernel_rfl)
  have h43 := @run_callFunc_extern Tryd.prog 71 _ (ReflectliteValue.method (ReflectliteValue.valueError "reflectlite.Value.Elem" 0) ReflectliteValue.elem) Tryd.func71 (by kernel_rfl) (by kernel_rfl) (by kernel_rfl) (by kernel_rfl)
  have h44 := @run_callFunc_extern Tryd.prog 72 _ ReflectliteValue.set Tryd.func72 (by kernel_rfl) (by kernel_rfl) (by kernel_rfl) (by kernel_rfl)
  have t22 := Tryd.typeOf22
  have t36 := Tryd.typeOf36
  have mA := Tryd.methodAssignableTo
  have a22 := Tryd.assign22_22
  have a36 := Tryd.assign36_22
  have v22 := Tryd.valueOf22
  have nA := Tryd.noAs36
  have hU := Tryd.hasUnwrap36
  have mU := Tryd.methodUnwrap
  have hal := lt_of_cell? ha
  have htl := lt_of_cell? ht0
  have el := Tryd.elemV41 a t (w.alloc (rv 83 a)) (by rw [World.cell?_alloc_lt _ _ a hal]; exact ha)
  have st := Tryd.set22 t ⟨w.heap.size + 1, 0, none⟩ c old ((w.alloc (rv 83 a)).alloc (.cells #[.int .i64 c] 49))
    (by rw [World.cell?_alloc_at _ _ _ _ (by simp)]; rfl)
    (by rw [World.cell?_alloc_lt _ _ t (by simp; omega), World.cell?_alloc_lt _ _ t htl]; exact ht0)
    (by rw [World.frozen?_alloc_old _ _ t (by simp; omega), World.frozen?_alloc_old _ _ t (Nat.ne_of_lt htl)]; exact hf0)
  go_enter Tryd.func63, Tryd.ntmps63
  go_wp2
  go_loopg [0] n (fun k E' wr => wr = w.alloc (rv 83 a) ∧ Chain w (codeV c) E' k)
  case atStart => exact ⟨rfl, hch⟩
  case round =>
    obtain ⟨rfl, hc'⟩ := hrel
    rcases hc'.parts with ⟨rfl, rfl⟩ | ⟨b, s, E1, k, rfl, rfl, h1, h2, h3⟩
    · clear hc'
      go_wp2
      go_ret
      exact ⟨rfl, rfl⟩
    · clear hc'
      obtain ⟨u1, v1, rfl⟩ := h3.iface ⟨_, _, rfl⟩
      have h2' : (w.alloc (rv 83 a)).cell? ⟨b, 1, none⟩ = some (.iface u1 v1) := by rw [World.cell?_alloc_lt _ _ _ (lt_of_cell? h2)]; exact h2
      have HC : Hid (Chain w (codeV c) (.iface u1 v1) k) := h3
      clear h3
      go_wp2
      go_roundg k
      case measure => omega
      case rel => exact ⟨rfl, HC.out⟩

set_option maxHeartbeats 1000000 in
set_option maxRecDepth 100000 in
theorem as36 (e t a : Addr) (old : Value) (w : World) (ha : w.cell? a = some (.pointer (some t))) (ht0 : w.cell? t = some old) (hf0 : w.frozen? t = false) :
    Calls Tryd.prog 63 #[.iface 73 (.pointer (some e)), .iface 84 (.pointer (some t)), rg 84 a, rt 73] w fun ev w' => ev = .returned (.bool true) ∧ w' = ((w.alloc (rv 84 a)).alloc (.cells #[.pointer (some e)] 73)).setCell t (.pointer (some e)) := by
  have h36 := @run_callFunc_extern Tryd.prog 70 _ ReflectliteType.typeOf Tryd.func70 (by kernel_rfl) (by kernel_rfl) (by kernel_rfl) (by kernel_rfl)
  have h72 := @run_callFunc_extern Tryd.prog 98 _ (ReflectliteType.relation "AssignableTo" ReflectliteType.assignableTo) Tryd.func98 (by kernel_rfl) (by kernel_rfl) (by kernel_rfl) (by kernel_rfl)
  have h32 := @run_callFunc_extern Tryd.prog 60 _ (fun args => ReflectliteValue.unpack (args.getD 0 (.tuple #[]))) Tryd.func60 (by kernel_rfl) (by kernel_rfl) (by kernel_rfl) (by kernel_rfl)
  have h43 := @run_callFunc_extern Tryd.prog 71 _ (ReflectliteValue.method (ReflectliteValue.valueError "reflectlite.Value.Elem" 0) ReflectliteValue.elem) Tryd.func71 (by kernel_rfl) (by kernel_rfl) (by kernel_rfl) (by kernel_rfl)
  have h44 := @run_callFunc_extern Tryd.prog 72 _ ReflectliteValue.set Tryd.func72 (by kernel_rfl) (by kernel_rfl) (by kernel_rfl) (by kernel_rfl)
  have t36 := Tryd.typeOf36
  have mA := Tryd.methodAssignableTo
  have a36 := Tryd.assign36_36
  have v36 := Tryd.valueOf36
  have hal := lt_of_cell? ha
  have htl := lt_of_cell? ht0
  have el := Tryd.elemV38 a t (w.alloc (rv 84 a)) (by rw [World.cell?_alloc_lt _ _ a hal]; exact ha)
  have st := Tryd.set36 t ⟨w.heap.size + 1, 0, none⟩ e old ((w.alloc (rv 84 a)).alloc (.cells #[.pointer (some e)] 73))
    (by rw [World.cell?_alloc_at _ _ _ _ (by simp)]; rfl)
    (by rw [World.cell?_alloc_lt _ _ t (by simp; omega), World.cell?_alloc_lt _ _ t htl]; exact ht0)
    (by rw [World.frozen?_alloc_old _ _ t (by simp; omega), World.frozen?_alloc_old _ _ t (Nat.ne_of_lt htl)]; exact hf0)
  go_enter Tryd.func63, Tryd.ntmps63
  go_wp2
  refine wp_loop_rounds 1 ?_
  rw [rounds_succ]
  go_wp2
  go_ret
  exact ⟨rfl, rfl⟩

end Go.Proofs.YtlapiaoopmhogaaDoor

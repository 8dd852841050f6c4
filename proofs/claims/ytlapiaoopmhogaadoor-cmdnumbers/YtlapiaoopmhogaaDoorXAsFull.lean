/-
  errors.As whole, at the two targets.
-/
import Derived.Test.YtlapiaoopmhogaaDoorXAs
namespace Go.Proofs.YtlapiaoopmhogaaDoor
open Go.RowKit Go.Extern.Stop Go.Stop Go.Extern

/-- package errors' errorType, as the program's text lays it. -/
abbrev Laid (w : World) : Prop := w.cell? ⟨0, 0, none⟩ = some (rt 46)

theorem Laid.keep {w w' : World} {B : Nat} (h : Laid w) (hb : Below B w w') (hB : 0 < B) : Laid w' := by
  show w'.cell? ⟨0, 0, none⟩ = _
  rw [hb.cell (p := ⟨0, 0, none⟩) hB]; exact h

abbrev preW (w : World) (T : Nat) (t : Addr) : World := (w.alloc (.cells #[.pointer (some t)] T)).alloc (rv T ⟨w.heap.size, 0, none⟩)

theorem preW_below (w : World) (T : Nat) (t : Addr) : Below w.heap.size w (preW w T t) :=
  ((Below.refl _ _).alloc (Nat.le_refl _) _).alloc (by simp) _

set_option maxHeartbeats 1000000 in
set_option maxRecDepth 100000 in
theorem As41 (u : TypeId) (v : Value) (t : Addr) (w : World) (r : Bool) (Q : World → Prop) (hg : Laid w)
    (h : Calls Tryd.prog 63 #[.iface u v, .iface 83 (.pointer (some t)), rg 83 ⟨w.heap.size, 0, none⟩, rt 49] (preW w 83 t) fun e w' => e = .returned (.bool r) ∧ Q w') :
    Calls Tryd.prog 47 #[.iface u v, .iface 83 (.pointer (some t))] w fun e w' => e = .returned (.bool r) ∧ Q w' := by
  have h32 := @run_callFunc_extern Tryd.prog 60 _ (fun args => ReflectliteValue.unpack (args.getD 0 (.tuple #[]))) Tryd.func60 (by kernel_rfl) (by kernel_rfl) (by kernel_rfl) (by kernel_rfl)
  have h33 := @run_callFunc_extern Tryd.prog 61 _ (ReflectliteValue.methodAny (ReflectliteValue.valueError "reflectlite.Value.Type" 0) (fun t _ _ _ => ReflectliteType.toType t)) Tryd.func61 (by kernel_rfl) (by kernel_rfl) (by kernel_rfl) (by kernel_rfl)
  have h34 := @run_callFunc_extern Tryd.prog 62 _ (ReflectliteValue.method (ReflectliteValue.valueError "reflectlite.Value.IsNil" 0) ReflectliteValue.isNil) Tryd.func62 (by kernel_rfl) (by kernel_rfl) (by kernel_rfl) (by kernel_rfl)
  have h62 := @run_callFunc_extern Tryd.prog 88 _ (ReflectliteType.abiMethod fun t => do pure (.int .u8 (← Rtype.kind t))) Tryd.func88 (by kernel_rfl) (by kernel_rfl) (by kernel_rfl) (by kernel_rfl)
  have h74 := @run_callFunc_extern Tryd.prog 100 _ (ReflectliteType.method ReflectliteType.elem) Tryd.func100 (by kernel_rfl) (by kernel_rfl) (by kernel_rfl) (by kernel_rfl)
  have h75 := @run_callFunc_extern Tryd.prog 101 _ (ReflectliteType.relation "Implements" ReflectliteType.implements_) Tryd.func101 (by kernel_rfl) (by kernel_rfl) (by kernel_rfl) (by kernel_rfl)
  have f6 := Tryd.valueOf41
  have f7 := Tryd.type41
  have mK := Tryd.methodKind
  have mE := Tryd.methodElem
  have mI := Tryd.methodImplements
  have k41 := Tryd.kind41
  have k22 := Tryd.kind22
  have e41 := Tryd.elem41
  have i22 := Tryd.implements22
  have n8 := Tryd.isNil41 ⟨w.heap.size, 0, none⟩ t (preW w 83 t) (by simp)
  have hg2 : Laid (preW w 83 t) := hg.keep (preW_below w 83 t) (lt_of_cell? hg)
  have H : Hid (Calls Tryd.prog 63 #[.iface u v, .iface 83 (.pointer (some t)), rg 83 ⟨w.heap.size, 0, none⟩, rt 49] (preW w 83 t) fun e w' => e = .returned (.bool r) ∧ Q w') := h
  clear h
  go_enter Tryd.func47, Tryd.ntmps47
  go_wp2_with (go_at_call 63; refine H.out.mono ?_; rintro e w' ⟨rfl, hq⟩)
  go_ret
  exact ⟨rfl, hq⟩

set_option maxHeartbeats 1000000 in
set_option maxRecDepth 100000 in
theorem As38 (u : TypeId) (v : Value) (t : Addr) (w : World) (r : Bool) (Q : World → Prop) (hg : Laid w)
    (h : Calls Tryd.prog 63 #[.iface u v, .iface 84 (.pointer (some t)), rg 84 ⟨w.heap.size, 0, none⟩, rt 73] (preW w 84 t) fun e w' => e = .returned (.bool r) ∧ Q w') :
    Calls Tryd.prog 47 #[.iface u v, .iface 84 (.pointer (some t))] w fun e w' => e = .returned (.bool r) ∧ Q w' := by
  have h32 := @run_callFunc_extern Tryd.prog 60 _ (fun args => ReflectliteValue.unpack (args.getD 0 (.tuple #[]))) Tryd.func60 (by kernel_rfl) (by kernel_rfl) (by kernel_rfl) (by kernel_rfl)
  have h33 := @run_callFunc_extern Tryd.prog 61 _ (ReflectliteValue.methodAny (ReflectliteValue.valueError "reflectlite.Value.Type" 0) (fun t _ _ _ => ReflectliteType.toType t)) Tryd.func61 (by kernel_rfl) (by kernel_rfl) (by kernel_rfl) (by kernel_rfl)
  have h34 := @run_callFunc_extern Tryd.prog 62 _ (ReflectliteValue.method (ReflectliteValue.valueError "reflectlite.Value.IsNil" 0) ReflectliteValue.isNil) Tryd.func62 (by kernel_rfl) (by kernel_rfl) (by kernel_rfl) (by kernel_rfl)
  have h62 := @run_callFunc_extern Tryd.prog 88 _ (ReflectliteType.abiMethod fun t => do pure (.int .u8 (← Rtype.kind t))) Tryd.func88 (by kernel_rfl) (by kernel_rfl) (by kernel_rfl) (by kernel_rfl)
  have h74 := @run_callFunc_extern Tryd.prog 100 _ (ReflectliteType.method ReflectliteType.elem) Tryd.func100 (by kernel_rfl) (by kernel_rfl) (by kernel_rfl) (by kernel_rfl)
  have h75 := @run_callFunc_extern Tryd.prog 101 _ (ReflectliteType.relation "Implements" ReflectliteType.implements_) Tryd.func101 (by kernel_rfl) (by kernel_rfl) (by kernel_rfl) (by kernel_rfl)
  have f6 := Tryd.valueOf38
  have f7 := Tryd.type38
  have mK := Tryd.methodKind
  have mE := Tryd.methodElem
  have mI := Tryd.methodImplements
  have k41 := Tryd.kind38
  have k22 := Tryd.kind36
  have e41 := Tryd.elem38
  have i22 := Tryd.implements36
  have n8 := Tryd.isNil38 ⟨w.heap.size, 0, none⟩ t (preW w 84 t) (by simp)
  have hg2 : Laid (preW w 84 t) := hg.keep (preW_below w 84 t) (lt_of_cell? hg)
  have H : Hid (Calls Tryd.prog 63 #[.iface u v, .iface 84 (.pointer (some t)), rg 84 ⟨w.heap.size, 0, none⟩, rt 73] (preW w 84 t) fun e w' => e = .returned (.bool r) ∧ Q w') := h
  clear h
  go_enter Tryd.func47, Tryd.ntmps47
  go_wp2_with (go_at_call 63; refine H.out.mono ?_; rintro e w' ⟨rfl, hq⟩)
  go_ret
  exact ⟨rfl, hq⟩

/-- The target's variable gets 'v'; all else that was there stays; new blocks come. -/
abbrev asW (w : World) (T T' : Nat) (t : Addr) (v : Value) : World := (((preW w T t).alloc (rv T ⟨w.heap.size, 0, none⟩)).alloc (.cells #[v] T')).setCell t v

theorem As_code (E : Value) (c : Int) (n : Nat) (t : Addr) (old : Value) (w : World) (hg : Laid w) (hch : Chain w (codeV c) E n) (ht0 : w.cell? t = some old) (hf0 : w.frozen? t = false) :
    Calls Tryd.prog 47 #[E, .iface 83 (.pointer (some t))] w fun e w' => e = .returned (.bool true) ∧ w' = asW w 83 49 t (.int .i64 c) := by
  have hpre := preW_below w 83 t
  have htl := lt_of_cell? ht0
  obtain ⟨u, v, rfl⟩ := hch.iface ⟨_, _, rfl⟩
  exact As41 u v t w true _ hg (as22 _ c n t ⟨w.heap.size, 0, none⟩ old _ (hch.keep hpre (Nat.le_refl _)) (by simp) (by rw [hpre.cell htl]; exact ht0) (by rw [hpre.frozen htl]; exact hf0))

theorem As_fault (e t : Addr) (old : Value) (w : World) (hg : Laid w) (ht0 : w.cell? t = some old) (hf0 : w.frozen? t = false) :
    Calls Tryd.prog 47 #[.iface 73 (.pointer (some e)), .iface 84 (.pointer (some t))] w fun ev w' => ev = .returned (.bool true) ∧ w' = asW w 84 73 t (.pointer (some e)) := by
  have hpre := preW_below w 84 t
  have htl := lt_of_cell? ht0
  exact As38 73 _ t w true _ hg (as36 e t ⟨w.heap.size, 0, none⟩ old _ (by simp) (by rw [hpre.cell htl]; exact ht0) (by rw [hpre.frozen htl]; exact hf0))

end Go.Proofs.YtlapiaoopmhogaaDoor

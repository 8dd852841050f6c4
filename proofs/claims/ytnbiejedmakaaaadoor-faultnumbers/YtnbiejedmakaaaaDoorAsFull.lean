/-
  errors.As whole, at the two targets.
-/
import Derived.Test.YtnbiejedmakaaaaDoorAs
namespace Go.Proofs.YtnbiejedmakaaaaDoor
open Go.RowKit Go.Extern.Stop Go.Stop Go.Extern

/-- package errors' errorType, as the program's text lays it. -/
abbrev Laid (w : World) : Prop := w.cell? ⟨0, 0, none⟩ = some (rt 26)

theorem Laid.keep {w w' : World} {B : Nat} (h : Laid w) (hb : Below B w w') (hB : 0 < B) : Laid w' := by
  show w'.cell? ⟨0, 0, none⟩ = _
  rw [hb.cell (p := ⟨0, 0, none⟩) hB]; exact h

theorem As_nil (t : Value) (w : World) :
    Calls Tryd.prog 20 #[.nilIface, t] w fun e w' => e = .returned (.bool false) ∧ w' = w := by
  go_enter Tryd.func20, Tryd.ntmps20
  go_wp2
  go_ret
  exact ⟨rfl, rfl⟩

abbrev preW (w : World) (T : Nat) (t : Addr) : World := (w.alloc (.cells #[.pointer (some t)] T)).alloc (rv T ⟨w.heap.size, 0, none⟩)

theorem preW_below (w : World) (T : Nat) (t : Addr) : Below w.heap.size w (preW w T t) :=
  ((Below.refl _ _).alloc (Nat.le_refl _) _).alloc (by simp) _

set_option maxHeartbeats 1000000 in
set_option maxRecDepth 100000 in
theorem As41 (u : TypeId) (v : Value) (t : Addr) (w : World) (r : Bool) (Q : World → Prop) (hg : Laid w)
    (h : Calls Tryd.prog 35 #[.iface u v, .iface 41 (.pointer (some t)), rg 41 ⟨w.heap.size, 0, none⟩, rt 22] (preW w 41 t) fun e w' => e = .returned (.bool r) ∧ Q w') :
    Calls Tryd.prog 20 #[.iface u v, .iface 41 (.pointer (some t))] w fun e w' => e = .returned (.bool r) ∧ Q w' := by
  have h32 := @run_callFunc_extern Tryd.prog 32 _ (fun args => ReflectliteValue.unpack (args.getD 0 (.tuple #[]))) Tryd.func32 (by kernel_rfl) (by kernel_rfl) (by kernel_rfl) (by kernel_rfl)
  have h33 := @run_callFunc_extern Tryd.prog 33 _ (ReflectliteValue.methodAny (ReflectliteValue.valueError "reflectlite.Value.Type" 0) (fun t _ _ _ => ReflectliteType.toType t)) Tryd.func33 (by kernel_rfl) (by kernel_rfl) (by kernel_rfl) (by kernel_rfl)
  have h34 := @run_callFunc_extern Tryd.prog 34 _ (ReflectliteValue.method (ReflectliteValue.valueError "reflectlite.Value.IsNil" 0) ReflectliteValue.isNil) Tryd.func34 (by kernel_rfl) (by kernel_rfl) (by kernel_rfl) (by kernel_rfl)
  have h62 := @run_callFunc_extern Tryd.prog 62 _ (ReflectliteType.abiMethod fun t => do pure (.int .u8 (← Rtype.kind t))) Tryd.func62 (by kernel_rfl) (by kernel_rfl) (by kernel_rfl) (by kernel_rfl)
  have h74 := @run_callFunc_extern Tryd.prog 74 _ (ReflectliteType.method ReflectliteType.elem) Tryd.func74 (by kernel_rfl) (by kernel_rfl) (by kernel_rfl) (by kernel_rfl)
  have h75 := @run_callFunc_extern Tryd.prog 75 _ (ReflectliteType.relation "Implements" ReflectliteType.implements_) Tryd.func75 (by kernel_rfl) (by kernel_rfl) (by kernel_rfl) (by kernel_rfl)
  have f6 := Tryd.valueOf41
  have f7 := Tryd.type41
  have mK := Tryd.methodKind
  have mE := Tryd.methodElem
  have mI := Tryd.methodImplements
  have k41 := Tryd.kind41
  have k22 := Tryd.kind22
  have e41 := Tryd.elem41
  have i22 := Tryd.implements22
  have n8 := Tryd.isNil41 ⟨w.heap.size, 0, none⟩ t (preW w 41 t) (by simp)
  have hg2 : Laid (preW w 41 t) := hg.keep (preW_below w 41 t) (lt_of_cell? hg)
  have H : Hid (Calls Tryd.prog 35 #[.iface u v, .iface 41 (.pointer (some t)), rg 41 ⟨w.heap.size, 0, none⟩, rt 22] (preW w 41 t) fun e w' => e = .returned (.bool r) ∧ Q w') := h
  clear h
  go_enter Tryd.func20, Tryd.ntmps20
  go_wp2_with (go_at_call 35; refine H.out.mono ?_; rintro e w' ⟨rfl, hq⟩)
  go_ret
  exact ⟨rfl, hq⟩

set_option maxHeartbeats 1000000 in
set_option maxRecDepth 100000 in
theorem As38 (u : TypeId) (v : Value) (t : Addr) (w : World) (r : Bool) (Q : World → Prop) (hg : Laid w)
    (h : Calls Tryd.prog 35 #[.iface u v, .iface 38 (.pointer (some t)), rg 38 ⟨w.heap.size, 0, none⟩, rt 36] (preW w 38 t) fun e w' => e = .returned (.bool r) ∧ Q w') :
    Calls Tryd.prog 20 #[.iface u v, .iface 38 (.pointer (some t))] w fun e w' => e = .returned (.bool r) ∧ Q w' := by
  have h32 := @run_callFunc_extern Tryd.prog 32 _ (fun args => ReflectliteValue.unpack (args.getD 0 (.tuple #[]))) Tryd.func32 (by kernel_rfl) (by kernel_rfl) (by kernel_rfl) (by kernel_rfl)
  have h33 := @run_callFunc_extern Tryd.prog 33 _ (ReflectliteValue.methodAny (ReflectliteValue.valueError "reflectlite.Value.Type" 0) (fun t _ _ _ => ReflectliteType.toType t)) Tryd.func33 (by kernel_rfl) (by kernel_rfl) (by kernel_rfl) (by kernel_rfl)
  have h34 := @run_callFunc_extern Tryd.prog 34 _ (ReflectliteValue.method (ReflectliteValue.valueError "reflectlite.Value.IsNil" 0) ReflectliteValue.isNil) Tryd.func34 (by kernel_rfl) (by kernel_rfl) (by kernel_rfl) (by kernel_rfl)
  have h62 := @run_callFunc_extern Tryd.prog 62 _ (ReflectliteType.abiMethod fun t => do pure (.int .u8 (← Rtype.kind t))) Tryd.func62 (by kernel_rfl) (by kernel_rfl) (by kernel_rfl) (by kernel_rfl)
  have h74 := @run_callFunc_extern Tryd.prog 74 _ (ReflectliteType.method ReflectliteType.elem) Tryd.func74 (by kernel_rfl) (by kernel_rfl) (by kernel_rfl) (by kernel_rfl)
  have h75 := @run_callFunc_extern Tryd.prog 75 _ (ReflectliteType.relation "Implements" ReflectliteType.implements_) Tryd.func75 (by kernel_rfl) (by kernel_rfl) (by kernel_rfl) (by kernel_rfl)
  have f6 := Tryd.valueOf38
  have f7 := Tryd.type38
  have mK := Tryd.methodKind
  have mE := Tryd.methodElem
  have mI := Tryd.methodImplements
  have k41 := Tryd.kind38
  have k22 := Tryd.kind36
  have e41 := Tryd.elem38
  have i22 := Tryd.implements36
  have n8 := Tryd.isNil38 ⟨w.heap.size, 0, none⟩ t (preW w 38 t) (by simp)
  have hg2 : Laid (preW w 38 t) := hg.keep (preW_below w 38 t) (lt_of_cell? hg)
  have H : Hid (Calls Tryd.prog 35 #[.iface u v, .iface 38 (.pointer (some t)), rg 38 ⟨w.heap.size, 0, none⟩, rt 36] (preW w 38 t) fun e w' => e = .returned (.bool r) ∧ Q w') := h
  clear h
  go_enter Tryd.func20, Tryd.ntmps20
  go_wp2_with (go_at_call 35; refine H.out.mono ?_; rintro e w' ⟨rfl, hq⟩)
  go_ret
  exact ⟨rfl, hq⟩

/-- The target's variable gets 'v'; all else that was there stays; new blocks come. -/
abbrev asW (w : World) (T T' : Nat) (t : Addr) (v : Value) : World := (((preW w T t).alloc (rv T ⟨w.heap.size, 0, none⟩)).alloc (.cells #[v] T')).setCell t v

theorem As_code (E : Value) (c : Int) (n : Nat) (t : Addr) (old : Value) (w : World) (hg : Laid w) (hch : Chain w (codeV c) E n) (ht0 : w.cell? t = some old) (hf0 : w.frozen? t = false) :
    Calls Tryd.prog 20 #[E, .iface 41 (.pointer (some t))] w fun e w' => e = .returned (.bool true) ∧ w' = asW w 41 22 t (.int .i64 c) := by
  have hpre := preW_below w 41 t
  have htl := lt_of_cell? ht0
  obtain ⟨u, v, rfl⟩ := hch.iface ⟨_, _, rfl⟩
  exact As41 u v t w true _ hg (as22 _ c n t ⟨w.heap.size, 0, none⟩ old _ (hch.keep hpre (Nat.le_refl _)) (by simp) (by rw [hpre.cell htl]; exact ht0) (by rw [hpre.frozen htl]; exact hf0))

theorem As_code_other (E x : Value) (n : Nat) (t : Addr) (w : World) (hg : Laid w) (hch : Chain w (.iface 58 x) E n) :
    Calls Tryd.prog 20 #[E, .iface 41 (.pointer (some t))] w fun e w' => e = .returned (.bool false) ∧ w' = (preW w 41 t).alloc (rv 41 ⟨w.heap.size, 0, none⟩) := by
  have hpre := preW_below w 41 t
  obtain ⟨u, v, rfl⟩ := hch.iface ⟨_, _, rfl⟩
  exact As41 u v t w false _ hg (as22_other _ x n t ⟨w.heap.size, 0, none⟩ _ (hch.keep hpre (Nat.le_refl _)))

theorem As_fault (e t : Addr) (old : Value) (w : World) (hg : Laid w) (ht0 : w.cell? t = some old) (hf0 : w.frozen? t = false) :
    Calls Tryd.prog 20 #[.iface 36 (.pointer (some e)), .iface 38 (.pointer (some t))] w fun ev w' => ev = .returned (.bool true) ∧ w' = asW w 38 36 t (.pointer (some e)) := by
  have hpre := preW_below w 38 t
  have htl := lt_of_cell? ht0
  exact As38 36 _ t w true _ hg (as36 e t ⟨w.heap.size, 0, none⟩ old _ (by simp) (by rw [hpre.cell htl]; exact ht0) (by rw [hpre.frozen htl]; exact hf0))

theorem As_fault_code (c : Int) (t : Addr) (w : World) (hg : Laid w) :
    Calls Tryd.prog 20 #[codeV c, .iface 38 (.pointer (some t))] w fun ev w' => ev = .returned (.bool false) ∧ w' = (preW w 38 t).alloc (rv 38 ⟨w.heap.size, 0, none⟩) :=
  As38 22 _ t w false _ hg (as36_code c t ⟨w.heap.size, 0, none⟩ _)

theorem As_fault_other (x : Value) (t : Addr) (w : World) (hg : Laid w) :
    Calls Tryd.prog 20 #[.iface 58 x, .iface 38 (.pointer (some t))] w fun ev w' => ev = .returned (.bool false) ∧ w' = (preW w 38 t).alloc (rv 38 ⟨w.heap.size, 0, none⟩) :=
  As38 58 x t w false _ hg (as36_other x t ⟨w.heap.size, 0, none⟩ _)
end Go.Proofs.YtnbiejedmakaaaaDoor

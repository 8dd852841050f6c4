/-
  errors.As whole, at the two targets.
-/
import Derived.Test.YtiamgnfbgiognaaGreatDoorXAs
namespace Go.Proofs.YtiamgnfbgiognaaGreatDoor
open Go.RowKit Go.Extern.Stop Go.Stop Go.Extern

/-- package errors' errorType, as the program's text lays it. -/
abbrev Laid (w : World) : Prop := w.cell? ⟨0, 0, none⟩ = some (rt 29)

theorem Laid.keep {w w' : World} {B : Nat} (h : Laid w) (hb : Below B w w') (hB : 0 < B) : Laid w' := by
  show w'.cell? ⟨0, 0, none⟩ = _
  rw [hb.cell (p := ⟨0, 0, none⟩) hB]; exact h

abbrev preW (w : World) (T : Nat) (t : Addr) : World := (w.alloc (.cells #[.pointer (some t)] T)).alloc (rv T ⟨w.heap.size, 0, none⟩)

theorem preW_below (w : World) (T : Nat) (t : Addr) : Below w.heap.size w (preW w T t) :=
  ((Below.refl _ _).alloc (Nat.le_refl _) _).alloc (by simp) _

set_option maxHeartbeats 1000000 in
set_option maxRecDepth 100000 in
theorem As41 (u : TypeId) (v : Value) (t : Addr) (w : World) (r : Bool) (Q : World → Prop) (hg : Laid w)
    (h : Calls Tryz.prog 63 #[.iface u v, .iface 71 (.pointer (some t)), rg 71 ⟨w.heap.size, 0, none⟩, rt 26] (preW w 71 t) fun e w' => e = .returned (.bool r) ∧ Q w') :
    Calls Tryz.prog 45 #[.iface u v, .iface 71 (.pointer (some t))] w fun e w' => e = .returned (.bool r) ∧ Q w' := by
  have h32 := @run_callFunc_extern Tryz.prog 60 _ (fun args => ReflectliteValue.unpack (args.getD 0 (.tuple #[]))) Tryz.func60 (by kernel_rfl) (by kernel_rfl) (by kernel_rfl) (by kernel_rfl)
  have h33 := @run_callFunc_extern Tryz.prog 61 _ (ReflectliteValue.methodAny (ReflectliteValue.valueError "reflectlite.Value.Type" 0) (fun t _ _ _ => ReflectliteType.toType t)) Tryz.func61 (by kernel_rfl) (by kernel_rfl) (by kernel_rfl) (by kernel_rfl)
  have h34 := @run_callFunc_extern Tryz.prog 62 _ (ReflectliteValue.method (ReflectliteValue.valueError "reflectlite.Value.IsNil" 0) ReflectliteValue.isNil) Tryz.func62 (by kernel_rfl) (by kernel_rfl) (by kernel_rfl) (by kernel_rfl)
  have h62 := @run_callFunc_extern Tryz.prog 100 _ (ReflectliteType.abiMethod fun t => do pure (.int .u8 (← Rtype.kind t))) Tryz.func100 (by kernel_rfl) (by kernel_rfl) (by kernel_rfl) (by kernel_rfl)
  have h74 := @run_callFunc_extern Tryz.prog 112 _ (ReflectliteType.method ReflectliteType.elem) Tryz.func112 (by kernel_rfl) (by kernel_rfl) (by kernel_rfl) (by kernel_rfl)
  have h75 := @run_callFunc_extern Tryz.prog 113 _ (ReflectliteType.relation "Implements" ReflectliteType.implements_) Tryz.func113 (by kernel_rfl) (by kernel_rfl) (by kernel_rfl) (by kernel_rfl)
  have f6 := Tryz.valueOf41
  have f7 := Tryz.type41
  have mK := Tryz.methodKind
  have mE := Tryz.methodElem
  have mI := Tryz.methodImplements
  have k41 := Tryz.kind41
  have k22 := Tryz.kind22
  have e41 := Tryz.elem41
  have i22 := Tryz.implements22
  have n8 := Tryz.isNil41 ⟨w.heap.size, 0, none⟩ t (preW w 71 t) (by simp)
  have hg2 : Laid (preW w 71 t) := hg.keep (preW_below w 71 t) (lt_of_cell? hg)
  have H : Hid (Calls Tryz.prog 63 #[.iface u v, .iface 71 (.pointer (some t)), rg 71 ⟨w.heap.size, 0, none⟩, rt 26] (preW w 71 t) fun e w' => e = .returned (.bool r) ∧ Q w') := h
  clear h
  go_enter Tryz.func45, Tryz.ntmps45
  go_wp2_with (go_at_call 63; refine H.out.mono ?_; rintro e w' ⟨rfl, hq⟩)
  go_ret
  exact ⟨rfl, hq⟩

/-- The target's variable gets 'v'; all else that was there stays; new blocks come. -/
abbrev asW (w : World) (T T' : Nat) (t : Addr) (v : Value) : World := (((preW w T t).alloc (rv T ⟨w.heap.size, 0, none⟩)).alloc (.cells #[v] T')).setCell t v

theorem As_code (E : Value) (c : Int) (n : Nat) (t : Addr) (old : Value) (w : World) (hg : Laid w) (hch : Chain w (codeV c) E n) (ht0 : w.cell? t = some old) (hf0 : w.frozen? t = false) :
    Calls Tryz.prog 45 #[E, .iface 71 (.pointer (some t))] w fun e w' => e = .returned (.bool true) ∧ w' = asW w 71 26 t (.int .i64 c) := by
  have hpre := preW_below w 71 t
  have htl := lt_of_cell? ht0
  obtain ⟨u, v, rfl⟩ := hch.iface ⟨_, _, rfl⟩
  exact As41 u v t w true _ hg (as22 _ c n t ⟨w.heap.size, 0, none⟩ old _ (hch.keep hpre (Nat.le_refl _)) (by simp) (by rw [hpre.cell htl]; exact ht0) (by rw [hpre.frozen htl]; exact hf0))

end Go.Proofs.YtiamgnfbgiognaaGreatDoor

/-
  findCode and findFault: errors.As behind a deferred recover.
-/
import Derived.Test.YtlapiaoopmhogaaDoorXAsFull
import Derived.Defers
import Derived.Recover
namespace Go.Proofs.YtlapiaoopmhogaaDoor
open Go.RowKit Go.Extern.Stop Go.Stop Go.Extern

theorem rec41 (w : World) : CallsD Tryd.prog 46 #[] .returning w fun e u' w' => e = .returned (.tuple #[]) ∧ u' = .returning ∧ w' = w := by
  refine callsD_of_wpS Tryd.func46 rfl fun c₀ cs hu => ?_
  apply wpS_region
  cases c₀
  simp_all [wpOpsS, go_sem, recoverD, Tryd.ntmps46, bodyPostS, results, Tryd.results46]

theorem rec42 (w : World) : CallsD Tryd.prog 48 #[] .returning w fun e u' w' => e = .returned (.tuple #[]) ∧ u' = .returning ∧ w' = w := by
  refine callsD_of_wpS Tryd.func48 rfl fun c₀ cs hu => ?_
  apply wpS_region
  cases c₀
  simp_all [wpOpsS, go_sem, recoverD, Tryd.ntmps48, bodyPostS, results, Tryd.results48]

theorem below4 (w : World) (a b c d : Obj) : Below w.heap.size w ((((w.alloc a).alloc b).alloc c).alloc d) :=
  ((((Below.refl _ _).alloc (Nat.le_refl _) _).alloc (by simp) _).alloc (by simp; omega) _).alloc (by simp; omega) _
theorem below5 (w : World) (a b c d e : Obj) : Below w.heap.size w (((((w.alloc a).alloc b).alloc c).alloc d).alloc e) :=
  (below4 w a b c d).alloc (by simp; omega) _

set_option maxHeartbeats 1000000 in
set_option maxRecDepth 100000 in
theorem findCode_code (E : Value) (c : Int) (n : Nat) (w : World) (hg : Laid w) (hch : Chain w (codeV c) E n) :
    Calls Tryd.prog 35 #[E] w fun e w' => e = .returned (.tuple #[.int .i64 c, .bool true]) ∧ Below w.heap.size w w' := by
  have hal : Below w.heap.size w (w.alloc (.cells #[.int .i64 0] 49)) := (Below.refl _ _).alloc (Nat.le_refl _) _
  have HC : Hid (Chain (w.alloc (.cells #[.int .i64 0] 49)) (codeV c) E n) := hch.keep hal (Nat.le_refl _)
  have HG : Hid (Laid (w.alloc (.cells #[.int .i64 0] 49))) := hg.keep hal (lt_of_cell? hg)
  clear hch hg hal
  have hnot : ∀ (x : Bool) (w : World), (Op.unary .not (.bool x)).run Tryd.prog w = .ok (.bool (!x)) w := fun _ _ => rfl
  go_enter_defers Tryd.func35, Tryd.ntmps35
  go_wp2_with (go_at_call 47; refine (As_code _ c n ⟨w.heap.size, 0, none⟩ (.int .i64 0) _ HG.out HC.out (by simp) (by simp)).mono ?_; rintro e w' ⟨rfl, rfl⟩)
  refine leaves_cons (f := 46) (args := #[]) (by simp) (by simp [go_sem]) ?_
  refine (rec41 _).mono ?_
  rintro e u' w'' ⟨rfl, rfl, rfl⟩
  simp [Leaves, settle, results, Tryd.results35, go_sem]
  exact below5 _ _ _ _ _ _

set_option maxHeartbeats 1000000 in
set_option maxRecDepth 100000 in
theorem findFault_fault (a : Addr) (w : World) (hg : Laid w) :
    Calls Tryd.prog 36 #[.iface 73 (.pointer (some a))] w fun e w' => e = .returned (.tuple #[.pointer (some a), .bool true]) ∧ Below w.heap.size w w' := by
  have HG : Hid (Laid (w.alloc (.cells #[.pointer none] 73))) := hg.keep ((Below.refl _ _).alloc (Nat.le_refl _) _) (lt_of_cell? hg)
  clear hg
  have hnot : ∀ (x : Bool) (w : World), (Op.unary .not (.bool x)).run Tryd.prog w = .ok (.bool (!x)) w := fun _ _ => rfl
  go_enter_defers Tryd.func36, Tryd.ntmps36
  go_wp2_with (go_at_call 47; refine (As_fault a ⟨w.heap.size, 0, none⟩ (.pointer none) _ HG.out (by simp) (by simp)).mono ?_; rintro e w' ⟨rfl, rfl⟩)
  refine leaves_cons (f := 48) (args := #[]) (by simp) (by simp [go_sem]) ?_
  refine (rec42 _).mono ?_
  rintro e u' w'' ⟨rfl, rfl, rfl⟩
  simp [Leaves, settle, results, Tryd.results36, go_sem]
  exact below5 _ _ _ _ _ _

end Go.Proofs.YtlapiaoopmhogaaDoor

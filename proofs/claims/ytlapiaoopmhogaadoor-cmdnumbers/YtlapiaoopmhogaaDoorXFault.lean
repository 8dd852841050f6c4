/-
  Package fault's functions by their contracts: over chains of faults round a code, and round another error.
-/
import Derived.Test.YtlapiaoopmhogaaDoorXFind
namespace Go.Proofs.YtlapiaoopmhogaaDoor
open Go.RowKit Go.Extern.Stop Go.Stop Go.Extern

theorem New_ok (s : ByteArray) (w : World) : Calls Tryd.prog 34 #[.string s, .int .i64 0] w fun e w' => e = .returned .nilIface ∧ w' = w := by
  go_enter Tryd.func34, Tryd.ntmps34
  go_wp2
  go_ret
  exact ⟨rfl, rfl⟩

abbrev newW (w : World) (s : ByteArray) (E : Value) : World := w.alloc (.cells #[.string s, E] 77)
abbrev newE (w : World) : Value := .iface 73 (.pointer (some ⟨w.heap.size, 0, none⟩))

theorem newW_below (w : World) (s : ByteArray) (E : Value) : Below w.heap.size w (newW w s E) := (Below.refl _ _).alloc (Nat.le_refl _) _

theorem Chain.new {w : World} {R E : Value} {n : Nat} (h : Chain w R E n) (s : ByteArray) : Chain (newW w s E) R (newE w) (n + 1) :=
  .wrap _ s E n (by simp) (by simp) (h.keep (newW_below w s E) (Nat.le_refl _))

theorem New_err (s : ByteArray) (c : Int) (hc : ¬ c = 0) (w : World) : Calls Tryd.prog 34 #[.string s, .int .i64 c] w fun e w' => e = .returned (newE w) ∧ w' = newW w s (codeV c) := by
  have hc' : (c == 0) = false := by simp [hc]
  go_enter Tryd.func34, Tryd.ntmps34
  go_wp2
  go_ret
  exact ⟨rfl, rfl⟩

theorem Code_nil (w : World) : Calls Tryd.prog 19 #[.nilIface] w fun e w' => e = .returned (.int .i64 0) ∧ w' = w := by
  go_enter Tryd.func19, Tryd.ntmps19
  go_wp2
  go_ret
  exact ⟨rfl, rfl⟩

set_option maxHeartbeats 400000 in
theorem Code_code (E : Value) (c : Int) (n : Nat) (w : World) (hg : Laid w) (hch : Chain w (codeV c) E n) :
    Calls Tryd.prog 19 #[E] w fun e w' => e = .returned (.int .i64 c) ∧ Below w.heap.size w w' := by
  obtain ⟨u, v, rfl⟩ := hch.iface ⟨_, _, rfl⟩
  have HC : Hid (Chain w (codeV c) (.iface u v) n) := hch
  have HG : Hid (Laid w) := hg
  clear hch hg
  go_enter Tryd.func19, Tryd.ntmps19
  go_wp2_with (go_at_call 35; refine (findCode_code _ c n _ HG.out HC.out).mono ?_; rintro e w' ⟨rfl, hb⟩)
  go_ret
  exact ⟨rfl, hb⟩

end Go.Proofs.YtlapiaoopmhogaaDoor

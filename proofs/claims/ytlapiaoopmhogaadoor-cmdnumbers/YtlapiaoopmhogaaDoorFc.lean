/-
  The code and the command of an error: nothing, and a fault that package cmd has made.
-/
import Derived.Test.YtlapiaoopmhogaaDoorXFault
namespace Go.Proofs.YtlapiaoopmhogaaDoor
open Go.RowKit Go.Extern.Stop Go.Stop Go.Extern

theorem As_nil (t : Value) (w : World) :
    Calls Tryd.prog 47 #[.nilIface, t] w fun e w' => e = .returned (.bool false) ∧ w' = w := by
  go_enter Tryd.func47, Tryd.ntmps47
  go_wp2
  go_ret
  exact ⟨rfl, rfl⟩

set_option maxHeartbeats 1000000 in
theorem findFault_nil (w : World) :
    Calls Tryd.prog 36 #[.nilIface] w fun e w' => e = .returned (.tuple #[.pointer none, .bool false]) ∧ Below w.heap.size w w' := by
  have hnot : ∀ (x : Bool) (w : World), (Op.unary .not (.bool x)).run Tryd.prog w = .ok (.bool (!x)) w := fun _ _ => rfl
  go_enter_defers Tryd.func36, Tryd.ntmps36
  go_wp2_with (go_at_call 47; refine (As_nil _ _).mono ?_; rintro e w' ⟨rfl, rfl⟩)
  refine leaves_cons (f := 48) (args := #[]) (by simp) (by simp [go_sem]) ?_
  refine (rec42 _).mono ?_
  rintro e u' w'' ⟨rfl, rfl, rfl⟩
  simp [Leaves, settle, results, Tryd.results36, go_sem]
  exact (Below.refl _ _).alloc (Nat.le_refl _) _

theorem Cmd_nil (w : World) : Calls Tryd.prog 20 #[.nilIface] w fun e w' => e = .returned (.string ⟨#[]⟩) ∧ Below w.heap.size w w' := by
  go_enter Tryd.func20, Tryd.ntmps20
  go_wp2_with (go_at_call 36; refine (findFault_nil _).mono ?_; rintro e w' ⟨rfl, hb⟩)
  go_ret
  exact ⟨rfl, hb⟩

set_option maxHeartbeats 400000 in
theorem Cmd_fault (b : Nat) (s : ByteArray) (w : World) (hg : Laid w) (hs : w.cell? ⟨b, 0, none⟩ = some (.string s)) : Calls Tryd.prog 20 #[.iface 73 (.pointer (some ⟨b, 0, none⟩))] w fun e w' => e = .returned (.string s) ∧ Below w.heap.size w w' := by
  have HG : Hid (Laid w) := hg
  clear hg
  have hl := lt_of_cell? hs
  go_enter Tryd.func20, Tryd.ntmps20
  go_wp2_with (go_at_call 36; refine (findFault_fault ⟨b, 0, none⟩ _ HG.out).mono ?_; rintro e w' ⟨rfl, hb⟩; have hs' : w'.cell? ⟨b, 0, none⟩ = some (.string s) := by rw [hb.cell hl]; exact hs)
  go_ret
  exact ⟨rfl, hb⟩

/-- A fault in memory: what is told, and the code under it. -/
structure Flt (w : World) (E : Value) (s : ByteArray) (c : Int) : Prop where
  ex : ∃ g, E = .iface 73 (.pointer (some ⟨g, 0, none⟩)) ∧ w.cell? ⟨g, 0, none⟩ = some (.string s) ∧ w.cell? ⟨g, 1, none⟩ = some (codeV c)
theorem Flt.new (w : World) (s : ByteArray) (c : Int) : Flt (newW w s (codeV c)) (newE w) s c :=
  ⟨⟨w.heap.size, rfl, by simp, by simp⟩⟩
theorem Flt.keep {w wn : World} {E : Value} {s : ByteArray} {c : Int} (h : Flt w E s c) (hb : Below w.heap.size w wn) : Flt wn E s c := by
  obtain ⟨g, h1, h2, h3⟩ := h.ex
  have hl := lt_of_cell? h2
  exact ⟨⟨g, h1, by rw [hb.cell hl]; exact h2, by rw [hb.cell (p := ⟨g, 1, none⟩) hl]; exact h3⟩⟩
theorem Flt.code {w : World} {E : Value} {s : ByteArray} {c : Int} (h : Flt w E s c) (hg : Laid w) : Calls Tryd.prog 19 #[E] w fun e w' => e = .returned (.int .i64 c) ∧ Below w.heap.size w w' := by
  obtain ⟨g, rfl, h2, h3⟩ := h.ex
  exact Code_code _ c 1 w hg (.wrap g s _ 0 h2 h3 .leaf)
theorem Flt.cmd {w : World} {E : Value} {s : ByteArray} {c : Int} (h : Flt w E s c) (hg : Laid w) : Calls Tryd.prog 20 #[E] w fun e w' => e = .returned (.string s) ∧ Below w.heap.size w w' := by
  obtain ⟨g, rfl, h2, -⟩ := h.ex
  exact Cmd_fault g s w hg h2
end Go.Proofs.YtlapiaoopmhogaaDoor

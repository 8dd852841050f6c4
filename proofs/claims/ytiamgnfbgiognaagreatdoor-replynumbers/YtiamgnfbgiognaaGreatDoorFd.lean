/-
  Failed.
-/
import Derived.Test.YtiamgnfbgiognaaGreatDoorSk
namespace Go.Proofs.YtiamgnfbgiognaaGreatDoor
open Go.RowKit Go.PlainAid

theorem Failed_any (e : El) (w : World) : Calls Tryz.prog 11 #[e.v] w fun r w' => Below w.heap.size w w' ∧ r = .returned (.bool (e.k == 2)) := by
  obtain ⟨k, s, n, a, m, c⟩ := e
  simp only [El.v]
  obtain ⟨w1, hw1⟩ : ∃ w0, w.alloc (.cells #[.int .i64 k, .string s, .int .i64 n, .slice a m c] 24) = w0 := ⟨_, rfl⟩
  have HB1 : Hid (Below w.heap.size w w1) := by rw [← hw1]; exact alloc_below w _
  have hA : BR w1 w.heap.size k s n a m c := by rw [← hw1]; exact BR.new w k s n a m c
  have p0 := hA.c0
  clear hA
  go_enter Tryz.func11, Tryz.ntmps11
  go_wp2
  go_ret
  exact ⟨HB1.out, rfl⟩
end Go.Proofs.YtiamgnfbgiognaaGreatDoor

/-
  Alike, Depth, OK, Bulk, Failed, known.
-/
import Derived.Test.YtiamgnfbgiognaaGreatDoorSh
namespace Go.Proofs.YtiamgnfbgiognaaGreatDoor
open Go.RowKit Go.PlainAid

/-- They are alike. -/
def alikeT (t t' : RT) : Bool := decide (cmpT (srt t) (srt t') = 0)
theorem same_srt (t t' : RT) : sameT (srt t) (srt t') = alikeT t t' := by unfold sameT alikeT; rw [can_srt, can_srt]
set_option maxRecDepth 100000 in
set_option maxHeartbeats 4000000 in
theorem Alike_any (d : Nat) (e e' : El) (t t' : RT) (w : World) (h : VL w d e t) (h' : VL w d e' t') : Calls Tryz.prog 6 #[e.v, e'.v] w fun r w' => Below w.heap.size w w' ∧ r = .returned (.bool (alikeT t t')) := by
  have HS1 : Hid (∀ wx, Below w.heap.size w wx → Calls Tryz.prog 19 #[e.v] wx (RetR wx d (srt t))) := fun wx hx => Sorted_all d e t wx (h.kp hx)
  have HS2 : Hid (∀ wx, Below w.heap.size w wx → Calls Tryz.prog 19 #[e'.v] wx (RetR wx d (srt t'))) := fun wx hx => Sorted_all d e' t' wx (h'.kp hx)
  rw [← same_srt]
  clear h h'
  obtain ⟨k, s, n, a, m, c⟩ := e
  obtain ⟨k', s', n', a', m', c'⟩ := e'
  simp only [El.v] at HS1 HS2 ⊢
  obtain ⟨w0, hw0⟩ : ∃ w0, w.alloc (.cells #[.int .i64 k, .string s, .int .i64 n, .slice a m c] 24) = w0 := ⟨_, rfl⟩
  obtain ⟨w1, hw1⟩ : ∃ w1, w0.alloc (.cells #[.int .i64 k', .string s', .int .i64 n', .slice a' m' c'] 24) = w1 := ⟨_, rfl⟩
  have HB1 : Hid (Below w.heap.size w w1) := by
    rw [← hw1, ← hw0]; exact below2 w _ _
  have HA : Hid (BR w1 w.heap.size k s n a m c) := by
    rw [← hw1, ← hw0]; exact (BR.new w k s n a m c).keep (alloc_below _ _)
  have HBb : Hid (BR w1 w0.heap.size k' s' n' a' m' c') := by
    rw [← hw1]; exact BR.new w0 k' s' n' a' m' c'
  have HD : Hid (Below w1.heap.size w1 w1.drew) := below_drewN w1 1
  have HCs : Hid (∀ wx, Below w1.heap.size w1 wx → wx.cell? ⟨w.heap.size, 0, none⟩ = some (.int .i64 k) ∧ wx.cell? ⟨w.heap.size, 1, none⟩ = some (.string s) ∧ wx.cell? ⟨w.heap.size, 2, none⟩ = some (.int .i64 n) ∧ wx.cell? ⟨w.heap.size, 3, none⟩ = some (.slice a m c) ∧ wx.cell? ⟨w0.heap.size, 0, none⟩ = some (.int .i64 k') ∧ wx.cell? ⟨w0.heap.size, 1, none⟩ = some (.string s') ∧ wx.cell? ⟨w0.heap.size, 2, none⟩ = some (.int .i64 n') ∧ wx.cell? ⟨w0.heap.size, 3, none⟩ = some (.slice a' m' c')) := fun wx hx => by
    have h1 := HA.out.keep hx
    have h2 := HBb.out.keep hx
    exact ⟨h1.c0, h1.c1, h1.c2, h1.c3, h2.c0, h2.c1, h2.c2, h2.c3⟩
  have HSm : Hid (∀ (x x' : El) (wx : World), VL wx d x (srt t) → VL wx d x' (srt t') → Calls Tryz.prog 4 #[x.v, x'.v] wx fun r w' => Below wx.heap.size wx w' ∧ r = .returned (.bool (sameT (srt t) (srt t')))) := fun x x' wx h1 h2 => Same_all d x x' _ _ wx h1 h2
  generalize sameT (srt t) (srt t') = b at HSm
  go_enter Tryz.func6, Tryz.ntmps6
  go_upto_region 1 with fail
  go_region_held3 (fun w' => w'.cell? ⟨w.heap.size, 0, none⟩ = some (.int .i64 k) ∧ w'.cell? ⟨w.heap.size, 1, none⟩ = some (.string s) ∧ w'.cell? ⟨w.heap.size, 2, none⟩ = some (.int .i64 n) ∧ w'.cell? ⟨w.heap.size, 3, none⟩ = some (.slice a m c) ∧ w'.cell? ⟨w0.heap.size, 0, none⟩ = some (.int .i64 k') ∧ w'.cell? ⟨w0.heap.size, 1, none⟩ = some (.string s') ∧ w'.cell? ⟨w0.heap.size, 2, none⟩ = some (.int .i64 n') ∧ w'.cell? ⟨w0.heap.size, 3, none⟩ = some (.slice a' m' c')) (exact HCs.out _ HD.out) (first
    | (go_at_call 4; refine (HSm.out ⟨_, _, _, _, _, _⟩ ⟨_, _, _, _, _, _⟩ _ (HX2.out.lo.kp HY.out) HX3.out.lo).mono ?_; rintro e wx ⟨hb, rfl⟩; replace HD := step_below HD hb; clear hb)
    | (go_at_call 19; have HX1' := HX2; clear HX1'; refine (HS2.out _ (HB1.out.trans (HD.out.mono HB1.out.size))).mono ?_; rintro e wx ⟨hb, x2, rfl, hv⟩; replace HD := step_below HD hb; have HY : Hid _ := hb; have HX3 : Hid _ := hv; obtain ⟨xk', xs', xn', xa', xm', xc'⟩ := x2; (simp only [El.v]); clear hb hv)
    | (go_at_call 19; refine (HS1.out _ (HB1.out.trans (HD.out.mono HB1.out.size))).mono ?_; rintro e wx ⟨hb, x1, rfl, hv⟩; replace HD := step_below HD hb; have HX2 : Hid _ := hv; obtain ⟨xk, xs, xn, xa, xm, xc⟩ := x1; (simp only [El.v]); clear hb hv))
  all_goals
    have HE := step_below HB1 HD.out
    go_wp2
    go_ret
    exact ⟨HE.out, rfl⟩
end Go.Proofs.YtiamgnfbgiognaaGreatDoor

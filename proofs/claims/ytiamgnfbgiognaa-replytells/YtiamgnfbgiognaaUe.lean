/-
  The document's Alike; the law's depth.
-/
import Derived.Test.YtiamgnfbgiognaaUd
namespace Go.Proofs.Ytiamgnfbgiognaa
open Go.RowKit Go.PlainAid

set_option maxRecDepth 100000 in
set_option maxHeartbeats 4000000 in
theorem rAlike_any (d : Nat) (e e' : El) (t t' : RT) (w : World) (h : VL w d e t) (h' : VL w d e' t') : Calls Try.prog 11 #[e.v, e'.v] w fun r w' => Below w.heap.size w w' ∧ r = .returned (.bool (alikeT t t')) := by
  have HS1 : Hid (∀ wx, Below w.heap.size w wx → Calls Try.prog 12 #[e.v] wx (RetS wx (fun g => g < w.heap.size) d t)) := fun wx hx => rSorted_all d _ e t wx (Vl.kp h hx)
  have HS2 : Hid (∀ wx, Below w.heap.size w wx → Calls Try.prog 12 #[e'.v] wx (RetS wx (fun g => g < w.heap.size) d t')) := fun wx hx => rSorted_all d _ e' t' wx (Vl.kp h' hx)
  clear h h'
  obtain ⟨k, s, n, a, m, c⟩ := e
  obtain ⟨k', s', n', a', m', c'⟩ := e'
  simp only [El.v] at HS1 HS2 ⊢
  obtain ⟨w0, hw0⟩ : ∃ w0, w.alloc (.cells #[.int .i64 k, .string s, .int .i64 n, .slice a m c] 25) = w0 := ⟨_, rfl⟩
  obtain ⟨w1, hw1⟩ : ∃ w1, w0.alloc (.cells #[.int .i64 k', .string s', .int .i64 n', .slice a' m' c'] 25) = w1 := ⟨_, rfl⟩
  have HB1 : Hid (Below w.heap.size w w1) := by
    rw [← hw1, ← hw0]; exact below2 w _ _
  have HA : Hid (BR w1 w.heap.size k s n a m c) := by
    rw [← hw1, ← hw0]; exact (BR.new w k s n a m c).keep (alloc_below _ _)
  have HBb : Hid (BR w1 w0.heap.size k' s' n' a' m' c') := by
    rw [← hw1]; exact BR.new w0 k' s' n' a' m' c'
  have HD : Hid (Below w1.heap.size w1 w1.drew) := below_drewN w1 1
  have HCs : Hid (∀ wx, Below w1.heap.size w1 wx → wx.cell? ⟨w.heap.size, 0, none⟩ = some (.int .i64 k) ∧ wx.cell? ⟨w.heap.size, 1, none⟩ = some (.string s) ∧ wx.cell? ⟨w.heap.size, 2, none⟩ = some (.int .i64 n) ∧ wx.cell? ⟨w.heap.size, 3, none⟩ = some (.slice a m c) ∧ wx.cell? ⟨w0.heap.size, 0, none⟩ = some (.int .i64 k') ∧ wx.cell? ⟨w0.heap.size, 1, none⟩ = some (.string s') ∧ wx.cell? ⟨w0.heap.size, 2, none⟩ = some (.int .i64 n') ∧ wx.cell? ⟨w0.heap.size, 3, none⟩ = some (.slice a' m' c')) := fun wx hx => by
    have h1 := HA.out.keep hx
    have h2 := HBb.out.keep hx
    exact ⟨h1.c0, h1.c1, h1.c2, h1.c3, h2.c0, h2.c1, h2.c2, h2.c3⟩
  have HSm : Hid (∀ (x x' : El) (u u' : RT) (wx : World), VL wx d x u → VL wx d x' u' → can u = srt t → can u' = srt t' → Calls Try.prog 9 #[x.v, x'.v] wx fun r w' => Below wx.heap.size wx w' ∧ r = .returned (.bool (alikeT t t'))) := fun x x' u u' wx h1 h2 h3 h4 => by
    have h := rSame_any d x x' u u' wx h1 h2
    unfold sameT at h
    rw [h3, h4] at h
    exact h
  generalize alikeT t t' = b at HSm
  go_enter Try.func11, Try.ntmps11
  go_upto_region 1 with fail
  go_region_held3 (fun w' => w'.cell? ⟨w.heap.size, 0, none⟩ = some (.int .i64 k) ∧ w'.cell? ⟨w.heap.size, 1, none⟩ = some (.string s) ∧ w'.cell? ⟨w.heap.size, 2, none⟩ = some (.int .i64 n) ∧ w'.cell? ⟨w.heap.size, 3, none⟩ = some (.slice a m c) ∧ w'.cell? ⟨w0.heap.size, 0, none⟩ = some (.int .i64 k') ∧ w'.cell? ⟨w0.heap.size, 1, none⟩ = some (.string s') ∧ w'.cell? ⟨w0.heap.size, 2, none⟩ = some (.int .i64 n') ∧ w'.cell? ⟨w0.heap.size, 3, none⟩ = some (.slice a' m' c')) (exact HCs.out _ HD.out) (first
    | (go_at_call 9; refine (HSm.out ⟨_, _, _, _, _, _⟩ ⟨_, _, _, _, _, _⟩ _ _ _ (HX2.out.lo.kp HY.out) HX3.out.lo HC2.out HC3.out).mono ?_; rintro e wx ⟨hb, rfl⟩; replace HD := step_below HD hb; clear hb)
    | (go_at_call 12; have HX1' := HX2; clear HX1'; refine (HS2.out _ (HB1.out.trans (HD.out.mono HB1.out.size))).mono ?_; rintro e wx ⟨hb, x2, u2, rfl, hv, hc⟩; have HC3 : Hid _ := hc; clear hc; replace HD := step_below HD hb; have HY : Hid _ := hb; have HX3 : Hid _ := hv; obtain ⟨xk', xs', xn', xa', xm', xc'⟩ := x2; (simp only [El.v]); clear hb hv)
    | (go_at_call 12; refine (HS1.out _ (HB1.out.trans (HD.out.mono HB1.out.size))).mono ?_; rintro e wx ⟨hb, x1, u1, rfl, hv, hc⟩; have HC2 : Hid _ := hc; clear hc; replace HD := step_below HD hb; have HX2 : Hid _ := hv; obtain ⟨xk, xs, xn, xa, xm, xc⟩ := x1; (simp only [El.v]); clear hb hv))
  all_goals
    have HE := step_below HB1 HD.out
    go_wp2
    go_ret
    exact ⟨HE.out, rfl⟩
def DepW (d : Nat) : Prop := ∀ (e : El) (t : RT) (w : World), VL w d e t → Calls Try.prog 14 #[e.v] w fun r w' => Below w.heap.size w w' ∧ r = .returned (.int .i64 (depT t : Nat))
set_option maxRecDepth 100000 in
set_option maxHeartbeats 4000000 in
theorem depth_step (d : Nat) (h100 : d ≤ 100) (ih : ∀ d', d = d' + 1 → DepW d') : DepW d := by
  intro e t w h
  have hd1 := h.dep
  obtain ⟨k, s, n, a, m, c⟩ := e
  obtain ⟨tk, ts, tn, l1⟩ := t
  have e1 : k = tk := h.k
  have e2 : s = ts := h.s
  have e3 : n = tn := h.n
  subst e1 e2 e3
  have hL1 : Hd w (fun g => g < w.heap.size) d a m c l1 := h.l
  have HL1 : Hid _ := hL1
  have HN : Hid (l1.length = m ∧ m ≤ 12) := ⟨hL1.len.1, hL1.len.2⟩
  have hdt : depT (.mk k s n l1) = 1 + (if hasL k then depL l1 else 0) := by rw [depT]
  generalize depT (.mk k s n l1) = dt at hdt hd1
  have HS : Hid (dt = 1 + (if hasL k then depL l1 else 0) ∧ dt ≤ d + 1) := ⟨hdt, hd1⟩
  have HTk : Hid (∀ i, depL (l1.take i) ≤ d) := fun i => by
    have h1 := hL1.dep
    have : ∀ l : List RT, depL (l.take i) ≤ depL l := fun l => by
      induction l generalizing i with
      | nil => simp [depL]
      | cons a l ih =>
        cases i with
        | zero => simp [depL]
        | succ i => rw [List.take_succ_cons, depL, depL]; have := ih i; omega
    exact Nat.le_trans (this l1) h1
  clear hL1 hdt hd1 h
  simp only [El.v]
  obtain ⟨w1, hw1⟩ : ∃ w0, w.alloc (.cells #[.int .i64 k, .string s, .int .i64 n, .slice a m c] 25) = w0 := ⟨_, rfl⟩
  have HB1 : Hid (Below w.heap.size w w1) := by rw [← hw1]; exact alloc_below w _
  have hA : BR w1 w.heap.size k s n a m c := by rw [← hw1]; exact BR.new w k s n a m c
  have HA : Hid _ := hA
  have p0 := hA.c0
  clear hA
  by_cases hk : 7 ≤ k ∧ k ≤ 9
  case neg =>
    have hdt : dt = 1 := by
      have h1 := HS.out.1
      rw [if_neg (by unfold hasL; simp only [decide_eq_true_eq]; omega)] at h1
      exact h1
    subst hdt
    by_cases h7 : 7 ≤ k
    · have h9 : ¬ k ≤ 9 := fun h9 => hk ⟨h7, h9⟩
      go_enter Try.func14, Try.ntmps14
      go_wp2
      go_ret
      exact ⟨HB1.out, rfl⟩
    · go_enter Try.func14, Try.ntmps14
      go_wp2
      go_ret
      exact ⟨HB1.out, rfl⟩
  case pos =>
  obtain ⟨h7, h9⟩ := hk
  have HSd : Hid (dt = 1 + depL l1) := by
    have h1 := HS.out.1
    rw [if_pos (by unfold hasL; simp only [decide_eq_true_eq]; omega)] at h1
    exact h1
  go_enter Try.func14, Try.ntmps14
  go_wp2
  go_loopg [3, 4] m (fun gk dv iv wr => ∃ (i x : Nat), i + gk = m ∧ iv = .int .i64 i ∧ dv = .int .i64 x ∧ Hid (x = depL (l1.take i)) ∧ Hid (Below w.heap.size w wr) ∧ Hid (BR wr w.heap.size k s n a m c))
  case atStart => exact ⟨0, 0, by omega, rfl, rfl, (rfl : 0 = depL []), HB1, HA⟩
  case round =>
    obtain ⟨i, x, hi, rfl, rfl, HX, HB, HAr⟩ := hrel
    clear p0
    have p3 := HAr.out.c3
    by_cases h8 : (i : Int) < m
    · obtain ⟨d', g1, o1, e1, t1, hd, rfl, hg1, ht1, hv1, cx0, cx1, cx2, cx3⟩ := (Hd.keep (fun g hg _ => HB.out.block g hg) d HL1.out).get (j := i) (by omega)
      obtain ⟨y, hy⟩ : ∃ y, depT t1 = y := ⟨_, rfl⟩
      have HC := ih d' hd e1 t1 wr (hv1.lo)
      rw [hy] at HC
      have HY : Hid (depL (l1.take (i + 1)) = max x y) := by
        show _ = _
        rw [List.take_add_one, ht1, Option.toList_some, depL_snoc, HX.out, hy]
      have hin : i < m := by omega
      have hi12 : i ≤ 12 := by have := HN.out.2; omega
      obtain ⟨ek1, es1, en1, ea1, em1, ec1⟩ := e1
      simp only at cx0 cx1 cx2 cx3
      simp only [El.v] at HC
      clear hv1 ht1 hg1 hy
      go_wp2_with fail
      refine HC.mono ?_
      rintro e w6 ⟨hb, rfl⟩
      have HB6 := step_below HB hb
      have HA6 : Hid _ := HAr.out.keep hb
      clear hb HC cx0 cx1 cx2 cx3 p3
      by_cases hxy : y ≤ x
      · have HY2 : Hid (x = depL (l1.take (i + 1))) := by
          have := HY.out
          show x = _
          omega
        clear HY
        go_wp2
        all_goals
          go_roundg (gk - 1)
          case measure => omega
          case rel => exact ⟨i + 1, x, by omega, by go_num, by first | rfl | (have hq : (x : Int) = y := by omega
                                                                              rw [hq]), HY2, HB6, HA6⟩
      · have HY2 : Hid (y = depL (l1.take (i + 1))) := by
          have := HY.out
          show y = _
          omega
        clear HY
        go_wp2
        all_goals
          go_roundg (gk - 1)
          case measure => omega
          case rel => exact ⟨i + 1, y, by omega, by go_num, by first | rfl | (exfalso; omega), HY2, HB6, HA6⟩
    · have hx : x = depL l1 := by
        have h1 := HX.out
        rw [List.take_of_length_le (by rw [HN.out.1]; omega)] at h1
        exact h1
      have hdt : dt = 1 + x := by rw [HSd.out, hx]
      have hw : IntKind.i64.wrap (1 + (x : Int)) = (dt : Int) := by rw [IntKind.wrap_i64]; have := HS.out.2; omega
      clear hx
      go_wp2
      go_ret
      exact ⟨HB.out, by go_num⟩
theorem depth_all (d : Nat) (hd : d ≤ 100) : DepW d := by
  induction d with
  | zero => exact depth_step 0 hd (fun _ h => by omega)
  | succ d ih => exact depth_step (d + 1) hd (fun d' h => by cases h; exact ih (by omega))
end Go.Proofs.Ytiamgnfbgiognaa

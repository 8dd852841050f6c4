/-
  Depth, OK, Bulk, Failed.
-/
import Derived.Test.YtiamgnfbgiognaaGreatDoorSi
namespace Go.Proofs.YtiamgnfbgiognaaGreatDoor
open Go.RowKit Go.PlainAid

theorem field3 (v0 v1 v2 : Value) (a : Option Addr) (m c : Nat) (w : World) : (Instr.field 24 (.agg #[v0, v1, v2, .slice a m c]) 3).run Tryz.prog w = .ok (.slice a m c) w := by
  simp [Instr.field, asAgg, part]
  try go_simp
theorem field1 (v0 v2 v3 : Value) (s : ByteArray) (w : World) : (Instr.field 24 (.agg #[v0, .string s, v2, v3]) 1).run Tryz.prog w = .ok (.string s) w := by
  simp [Instr.field, asAgg, part]
  try go_simp
mutual
/-- How deep. -/
def depT : RT → Nat
  | .mk k _ _ l => 1 + (if hasL k then depL l else 0)
def depL : List RT → Nat
  | [] => 0
  | a :: l => max (depT a) (depL l)
end
theorem depL_snoc : ∀ (l : List RT) (t : RT), depL (l ++ [t]) = max (depL l) (depT t)
  | [], t => by simp [depL]
  | a :: l, t => by rw [List.cons_append, depL, depL, depL_snoc l t]; omega
theorem dep_t (t : RT) : depT t = 1 + depL (mean t.k t.s t.n t.l).l := by
  obtain ⟨k, s, n, l⟩ := t
  rw [depT]
  show 1 + _ = 1 + depL (if hasL k then l else [])
  split <;> rfl
def DepC (d : Nat) : Prop := ∀ (e : El) (t : RT) (w : World), VL w d e t → depT t ≤ d + 1 ∧ Calls Tryz.prog 24 #[e.v] w fun r w' => Below w.heap.size w w' ∧ r = .returned (.int .i64 (depT t : Nat))
theorem Hd.dep {w : World} {F : Nat → Prop} : ∀ (d : Nat) {a : Option Addr} {m c : Nat} {l : List RT}, Hd w F d a m c l → depL l ≤ d
  | 0, _, _, _, _, ⟨h1, _⟩ => by subst h1; simp [depL]
  | d + 1, _, _, _, l, h => by
    obtain ⟨es, h1, h2, h3⟩ := h.ex
    have : ∀ t ∈ l, depT t ≤ d + 1 := fun t ht => by
      obtain ⟨j, hj, rfl⟩ := List.mem_iff_getElem.1 ht
      obtain ⟨e, t', k1, k2, k3⟩ := h3.get (j := j) (by rw [h3.len]; exact hj)
      rw [List.getElem?_eq_getElem hj] at k2
      cases k2
      rw [dep_t]
      have := Hd.dep d k3.mean.l
      omega
    clear h h1 h2 h3
    induction l with
    | nil => simp [depL]
    | cons a l ih =>
      rw [depL]
      have h1 := this a (by simp)
      have h2 := ih (fun t ht => this t (by simp [ht]))
      omega
theorem Vl.dep {w : World} {F : Nat → Prop} {d : Nat} {e : El} {t : RT} (h : Vl w F d e t) : depT t ≤ d + 1 := by
  rw [dep_t]; have := Hd.dep d h.mean.l; omega
set_option maxRecDepth 100000 in
set_option maxHeartbeats 4000000 in
theorem Depth_step (d : Nat) (h100 : d ≤ 100) (ih : ∀ d', d = d' + 1 → DepC d') : DepC d := by
  intro e t w h
  refine ⟨h.dep, ?_⟩
  obtain ⟨em, hem⟩ : ∃ em, e.mean = em := ⟨_, rfl⟩
  have V1 := h.mean
  rw [hem] at V1
  have hS := dep_t t
  have hL1 := V1.l
  have hd1 := h.dep
  generalize (mean t.k t.s t.n t.l).l = l1 at hS hL1
  have HM := meant_any e
  rw [hem] at HM
  generalize depT t = dt at hS hd1
  clear V1 h hem
  obtain ⟨k, s, n, a, m, c⟩ := e
  obtain ⟨k1, s1, n1, a1, m1, c1⟩ := em
  simp only at hL1 ⊢
  have HL1 : Hid _ := hL1
  have HN : Hid (l1.length = m1 ∧ m1 ≤ 12) := ⟨hL1.len.1, hL1.len.2⟩
  have HS : Hid (dt = 1 + depL l1 ∧ dt ≤ d + 1) := ⟨hS, hd1⟩
  have HTk : Hid (∀ i, depL (l1.take i) ≤ d) := fun i => by
    have h1 := hL1.dep
    have : ∀ l : List RT, depL (l.take i) ≤ depL l := fun l => by
      induction l generalizing i with
      | nil => simp [depL]
      | cons a l ih =>
        cases i with
        | zero => simp [depL]
        | succ i => rw [List.take_succ_cons, depL, depL]; have := ih i; omega
    exact Nat.le_trans (this l1) h1
  clear hL1 hS hd1
  simp only [El.v] at HM
  simp only [El.v]
  obtain ⟨w1, hw1⟩ : ∃ w0, w.alloc (.cells #[.int .i64 k, .string s, .int .i64 n, .slice a m c] 24) = w0 := ⟨_, rfl⟩
  have HB1 : Hid (Below w.heap.size w w1) := by rw [← hw1]; exact alloc_below w _
  have hA : BR w1 w.heap.size k s n a m c := by rw [← hw1]; exact BR.new w k s n a m c
  have p0 := hA.c0
  have p1 := hA.c1
  have p2 := hA.c2
  have p3 := hA.c3
  clear hA
  go_enter Tryz.func24, Tryz.ntmps24
  go_wp2_with fail
  refine (HM _).mono ?_
  rintro e w2 ⟨hb, rfl⟩
  have HB2 := step_below HB1 hb
  have hfl := field3 (.int .i64 k1) (.string s1) (.int .i64 n1) a1 m1 c1 w2
  clear hb HM hw1 p0 p1 p2 p3
  go_wp2
  clear hfl
  go_loopg [3, 10] m1 (fun gk dv iv wr => ∃ (i x : Nat), i + gk = m1 ∧ iv = .int .i64 i ∧ dv = .int .i64 x ∧ Hid (x = depL (l1.take i)) ∧ Hid (Below w.heap.size w wr))
  case atStart => exact ⟨0, 0, by omega, rfl, rfl, (rfl : 0 = depL []), HB2⟩
  case round =>
    obtain ⟨i, x, hi, rfl, rfl, HX, HB⟩ := hrel
    by_cases h8 : (i : Int) < m1
    · obtain ⟨d', g1, o1, e1, t1, hd, rfl, hg1, ht1, hv1, cx0, cx1, cx2, cx3⟩ := (Hd.keep (fun g hg _ => HB.out.block g hg) d HL1.out).get (j := i) (by omega)
      obtain ⟨w5, hw5⟩ : ∃ w5, wr.alloc (.cells #[.int .i64 e1.k, .string e1.s, .int .i64 e1.n, .slice e1.a e1.m e1.c] 24) = w5 := ⟨_, rfl⟩
      have hb5 : Below wr.heap.size wr w5 := by rw [← hw5]; exact alloc_below wr _
      have HB5 := step_below HB hb5
      have hA5 : BR w5 wr.heap.size e1.k e1.s e1.n e1.a e1.m e1.c := by rw [← hw5]; exact BR.new wr _ _ _ _ _ _
      have r0 := hA5.c0
      have r1 := hA5.c1
      have r2 := hA5.c2
      have r3 := hA5.c3
      obtain ⟨y, hy⟩ : ∃ y, depT t1 = y := ⟨_, rfl⟩
      have HC := (ih d' hd e1 t1 w5 (hv1.lo.kp hb5)).2
      rw [hy] at HC
      have HY : Hid (depL (l1.take (i + 1)) = max x y) := by
        show _ = _
        rw [List.take_add_one, ht1, Option.toList_some, depL_snoc, HX.out, hy]
      have hin : i < m1 := by omega
      have hi12 : i ≤ 12 := by have := HN.out.2; omega
      obtain ⟨ek1, es1, en1, ea1, em1, ec1⟩ := e1
      simp only at cx0 cx1 cx2 cx3 hw5 r0 r1 r2 r3
      simp only [El.v] at HC
      clear hA5 hv1 ht1 hb5 hg1 hy
      go_wp2_with fail
      refine HC.mono ?_
      rintro e w6 ⟨hb, rfl⟩
      have HB6 := step_below HB5 hb
      clear hb HC
      by_cases hxy : y ≤ x
      · have HY2 : Hid (x = depL (l1.take (i + 1))) := by
          have := HY.out
          show x = _
          omega
        clear HY
        go_wp2
        all_goals
          go_roundg (gk - 1)
          case measure => omega
          case rel => exact ⟨i + 1, x, by omega, by go_num, by first | rfl | (have hq : (x : Int) = y := by omega
                                                                              rw [hq]), HY2, HB6⟩
      · have HY2 : Hid (y = depL (l1.take (i + 1))) := by
          have := HY.out
          show y = _
          omega
        clear HY
        go_wp2
        all_goals
          go_roundg (gk - 1)
          case measure => omega
          case rel => exact ⟨i + 1, y, by omega, by go_num, by first | rfl | (exfalso; omega), HY2, HB6⟩
    · have hx : x = depL l1 := by
        have h1 := HX.out
        rw [List.take_of_length_le (by rw [HN.out.1]; omega)] at h1
        exact h1
      have hdt : dt = 1 + x := by rw [HS.out.1, hx]
      have hw : IntKind.i64.wrap (1 + (x : Int)) = (dt : Int) := by rw [IntKind.wrap_i64]; have := HS.out.2; omega
      clear hx
      go_wp2
      go_ret
      exact ⟨HB.out, by go_num⟩
theorem Depth_all (d : Nat) (hd : d ≤ 100) : DepC d := by
  induction d with
  | zero => exact Depth_step 0 hd (fun _ h => by omega)
  | succ d ih => exact Depth_step (d + 1) hd (fun d' h => by cases h; exact ih (by omega))
end Go.Proofs.YtiamgnfbgiognaaGreatDoor

/-
  compare, slices.CompareFunc.
-/
import Derived.Test.YtiamgnfbgiognaaGreatDoorSb
namespace Go.Proofs.YtiamgnfbgiognaaGreatDoor
open Go.RowKit Go.PlainAid

def CmpC (d : Nat) : Prop := ∀ (e e' : El) (t t' : RT) (w : World), VL w d e t → VL w d e' t' → Calls Tryz.prog 28 #[e.v, e'.v] w fun r w' => Below w.heap.size w w' ∧ r = .returned (.int .i64 (cmpT t t'))
/-- What the first i decide. -/
theorem cmpL_take : ∀ (l l' : List RT) (i : Nat) (t t' : RT), l.take i = l'.take i → l[i]? = some t → l'[i]? = some t' → cmpL l l' = orI (cmpT t t') (cmpL (l.drop (i + 1)) (l'.drop (i + 1)))
  | [], _, i, _, _, _, h, _ => by simp at h
  | _ :: _, [], i, _, _, _, _, h => by simp at h
  | a :: l, b :: r, 0, t, t', _, h, h' => by simp at h h'; subst h h'; rw [cmpL]; rfl
  | a :: l, b :: r, i + 1, t, t', he, h, h' => by
    simp only [List.take_succ_cons, List.cons.injEq] at he
    rw [cmpL, he.1, cmpT_self, cmpL_take l r i t t' he.2 (by simpa using h) (by simpa using h')]
    unfold orI; simp
theorem cmpL_more {l l' : List RT} {i : Nat} (hi : l'.length = i) (hl : i < l.length) (he : l.take i = l'.take i) : cmpL l l' = 1 := by
  induction l generalizing l' i with
  | nil => simp at hl
  | cons a l ih =>
    cases l' with
    | nil => simp [cmpL]
    | cons b r =>
      obtain ⟨i, rfl⟩ : ∃ k, i = k + 1 := ⟨i - 1, by simp at hi; omega⟩
      simp only [List.take_succ_cons, List.cons.injEq] at he
      rw [cmpL, he.1, cmpT_self, ih (by simpa using hi) (by simpa using hl) he.2]
      rfl
theorem cmpL_end {l l' : List RT} {i : Nat} (hi : l.length = i) (he : l.take i = l'.take i) : cmpL l l' = if l.length < l'.length then -1 else 0 := by
  induction l generalizing l' i with
  | nil => cases l' <;> simp [cmpL]
  | cons a l ih =>
    cases l' with
    | nil => subst hi; simp at he
    | cons b r =>
      subst hi
      simp only [List.length_cons, List.take_succ_cons, List.cons.injEq] at he
      rw [cmpL, he.1, cmpT_self, ih rfl he.2]
      simp [orI]
set_option maxRecDepth 100000 in
set_option maxHeartbeats 4000000 in
theorem CompareFunc_any (d : Nat) (ih : ∀ d', d = d' + 1 → CmpC d') (a a' : Option Addr) (m m' c c' : Nat) (l l' : List RT) (w : World) (h : Hd w (fun g => g < w.heap.size) d a m c l) (h' : Hd w (fun g => g < w.heap.size) d a' m' c' l') :
    Calls Tryz.prog 41 #[.slice a m c, .slice a' m' c', .func (.func 28) #[] #[]] w fun r w' => Below w.heap.size w w' ∧ r = .returned (.int .i64 (cmpL l l')) := by
  have HL1 : Hid _ := h
  have HL2 : Hid _ := h'
  have HN : Hid (l.length = m ∧ m ≤ 12 ∧ l'.length = m') := ⟨h.len.1, h.len.2, h'.len.1⟩
  obtain ⟨z, hz⟩ : ∃ z, cmpL l l' = z := ⟨_, rfl⟩
  have HZ : Hid _ := hz
  rw [hz]
  clear h h' hz
  go_enter Tryz.func41, Tryz.ntmps41
  go_wp2
  go_loopg [13] m (fun g iv wr => ∃ i : Nat, i + g = m ∧ iv = .int .i64 i ∧ Hid (Below w.heap.size w wr) ∧ Hid (l.take i = l'.take i))
  case atStart => exact ⟨0, by omega, rfl, Below.refl _ _, (rfl : ([] : List RT) = [])⟩
  case round =>
    obtain ⟨i, hi, rfl, HB, HT⟩ := hrel
    by_cases h8 : (i : Int) < m
    · obtain ⟨d', g1, o1, e1, t1, hd, rfl, hg1, ht1, hv1, cx0, cx1, cx2, cx3⟩ := (Hd.keep (fun g hg _ => HB.out.block g hg) d HL1.out).get (j := i) (by omega)
      obtain ⟨w5, hw5⟩ : ∃ w5, wr.alloc (.cells #[.int .i64 e1.k, .string e1.s, .int .i64 e1.n, .slice e1.a e1.m e1.c] 24) = w5 := ⟨_, rfl⟩
      have hb5 : Below wr.heap.size wr w5 := by rw [← hw5]; exact alloc_below wr _
      have HB5 : Hid (Below w.heap.size w w5) := step_below HB hb5
      have hi12 : i ≤ 12 := by have := HN.out.2.1; omega
      have hin : i < m := by omega
      by_cases h9 : (i : Int) ≥ m'
      · have hz : z = 1 := by
          have hm' : m' ≤ i := by omega
          have hm2 : m' = i ∨ m' < i := by omega
          have h1 := HT.out
          have h2 := congrArg List.length h1
          rw [List.length_take, List.length_take, HN.out.1, HN.out.2.2] at h2
          have h3 : m' = i := by omega
          rw [← HZ.out]
          exact cmpL_more (by rw [HN.out.2.2]; exact h3) (by rw [HN.out.1]; exact hin) h1
        subst hz
        obtain ⟨ek1, es1, en1, ea1, em1, ec1⟩ := e1
        simp only at cx0 cx1 cx2 cx3 hw5
        clear HL1 HL2 hv1 ht1
        go_wp2
        go_ret
        exact ⟨HB5.out, rfl⟩
      · obtain ⟨d2, g2, o2, e2, t2, hd2, rfl, hg2, ht2, hv2, cy0, cy1, cy2, cy3⟩ := (Hd.keep (fun g hg _ => HB.out.block g hg) d HL2.out).get (j := i) (by omega)
        obtain rfl : d' = d2 := by omega
        have hl2 := World.block_lt_of_cell? wr _ cy0
        have dy0 : w5.cell? ⟨g2, o2 + i * 4, none⟩ = _ := (hb5.cell (p := ⟨g2, o2 + i * 4, none⟩) hl2).trans cy0
        have dy1 : w5.cell? ⟨g2, o2 + i * 4 + 1, none⟩ = _ := (hb5.cell (p := ⟨g2, o2 + i * 4 + 1, none⟩) hl2).trans cy1
        have dy2 : w5.cell? ⟨g2, o2 + i * 4 + 2, none⟩ = _ := (hb5.cell (p := ⟨g2, o2 + i * 4 + 2, none⟩) hl2).trans cy2
        have dy3 : w5.cell? ⟨g2, o2 + i * 4 + 3, none⟩ = _ := (hb5.cell (p := ⟨g2, o2 + i * 4 + 3, none⟩) hl2).trans cy3
        obtain ⟨w6, hw6⟩ : ∃ w6, w5.alloc (.cells #[.int .i64 e2.k, .string e2.s, .int .i64 e2.n, .slice e2.a e2.m e2.c] 24) = w6 := ⟨_, rfl⟩
        have hb6 : Below w5.heap.size w5 w6 := by rw [← hw6]; exact alloc_below w5 _
        have hA5 : BR w6 wr.heap.size e1.k e1.s e1.n e1.a e1.m e1.c := by have hn : BR w5 wr.heap.size e1.k e1.s e1.n e1.a e1.m e1.c := (by rw [← hw5]; exact BR.new wr _ _ _ _ _ _); exact hn.keep hb6
        have hA6 : BR w6 w5.heap.size e2.k e2.s e2.n e2.a e2.m e2.c := by rw [← hw6]; exact BR.new w5 _ _ _ _ _ _
        have p0 := hA5.c0
        have p1 := hA5.c1
        have p2 := hA5.c2
        have p3 := hA5.c3
        have q0 := hA6.c0
        have q1 := hA6.c1
        have q2 := hA6.c2
        have q3 := hA6.c3
        have HC : Calls Tryz.prog 28 #[e1.v, e2.v] w6 fun r w' => Below w6.heap.size w6 w' ∧ r = .returned (.int .i64 (cmpT t1 t2)) := ih d' hd e1 e2 t1 t2 w6 ((hv1.lo.kp hb5).kp hb6) ((hv2.lo.kp hb5).kp hb6)
        have HB6 := step_below HB5 hb6
        have HZ2 : Hid (cmpT t1 t2 ≠ 0 → z = cmpT t1 t2) := fun h => by
          rw [← HZ.out, cmpL_take l l' i t1 t2 HT.out ht1 ht2]
          unfold orI; rw [if_neg h]
        have HT2 : Hid (cmpT t1 t2 = 0 → l.take (i + 1) = l'.take (i + 1)) := fun h => by
          show _ = _
          rw [List.take_add_one, List.take_add_one, ht1, ht2, HT.out, cmpT_zero.1 h]
        obtain ⟨ek1, es1, en1, ea1, em1, ec1⟩ := e1
        obtain ⟨ek2, es2, en2, ea2, em2, ec2⟩ := e2
        simp only at cx0 cx1 cx2 cx3 dy0 dy1 dy2 dy3 hw5 hw6 p0 p1 p2 p3 q0 q1 q2 q3
        simp only [El.v] at HC
        generalize cmpT t1 t2 = y at HC HZ2 HT2
        clear hA5 hA6 HL1 HL2 hv1 hv2 ht1 ht2 hb5 hb6 cy0 cy1 cy2 cy3
        go_wp2_with fail
        refine HC.mono ?_
        rintro e w7 ⟨hb, rfl⟩
        have HB7 := step_below HB6 hb
        clear hb HC
        by_cases hy : y = 0
        · have HT3 : Hid _ := HT2.out hy
          subst hy
          clear HT2 HZ2
          go_wp2
          go_roundg (gk - 1)
          case measure => omega
          case rel => exact ⟨i + 1, by omega, by go_num, HB7, HT3⟩
        · have hz := HZ2.out hy
          subst hz
          clear HT2 HZ2
          go_wp2
          go_ret
          exact ⟨HB7.out, rfl⟩
    · have hz := cmpL_end (l := l) (l' := l') (i := i) (by rw [HN.out.1]; omega) HT.out
      rw [HZ.out, HN.out.1, HN.out.2.2] at hz
      clear HL1 HL2
      by_cases h9 : m < m'
      · rw [if_pos h9] at hz
        subst hz
        have h9' : (m : Int) < m' := by omega
        go_wp2
        go_ret
        exact ⟨HB.out, rfl⟩
      · rw [if_neg h9] at hz
        subst hz
        have h9' : ¬ (m : Int) < m' := by omega
        go_wp2
        go_ret
        exact ⟨HB.out, rfl⟩
set_option maxRecDepth 100000 in
set_option maxHeartbeats 4000000 in
theorem compare_step (d : Nat) (ih : ∀ d', d = d' + 1 → CmpC d') : CmpC d := by
  intro e e' t t' w h h'
  have HCF : Hid (∀ wx, Below w.heap.size w wx → Calls Tryz.prog 41 #[.slice e.a e.m e.c, .slice e'.a e'.m e'.c, .func (.func 28) #[] #[]] wx fun r w' => Below wx.heap.size wx w' ∧ r = .returned (.int .i64 (cmpL t.l t'.l))) := fun wx hx => CompareFunc_any d ih _ _ _ _ _ _ _ _ wx (h.kp hx).l (h'.kp hx).l
  have hz : cmpT t t' = orI (orI (cmpI e.k e'.k) (orI (cmpI e.n e'.n) (cmpB e.s e'.s))) (cmpL t.l t'.l) := by
    rw [h.k, h.s, h.n, h'.k, h'.s, h'.n]
    obtain ⟨k, s, n, l⟩ := t
    obtain ⟨k', s', n', l'⟩ := t'
    rw [cmpT]; rfl
  rw [hz]
  generalize cmpL t.l t'.l = y at HCF
  clear h h' hz
  obtain ⟨k, s, n, a, m, c⟩ := e
  obtain ⟨k', s', n', a', m', c'⟩ := e'
  have H1 := cmpInt_any k k'
  have H2 := cmpI64_any n n'
  have H3 := Compare_any s s'
  simp only at HCF ⊢
  generalize cmpI k k' = x1 at H1
  generalize cmpI n n' = x2 at H2
  generalize cmpB s s' = x3 at H3
  obtain ⟨x, hx⟩ : ∃ x, orI x1 (orI x2 x3) = x := ⟨_, rfl⟩
  have H4 := fun g w h0 h1 h2 => Or_any g x1 x2 x3 w h0 h1 h2
  rw [hx] at H4
  rw [hx]
  clear hx
  obtain ⟨r, hr⟩ : ∃ r, orI x y = r := ⟨_, rfl⟩
  rw [hr]
  have HR : Hid (orI x y = r) := hr
  clear hr
  simp only [El.v]
  obtain ⟨w0, hw0⟩ : ∃ w0, w.alloc (.cells #[.int .i64 k, .string s, .int .i64 n, .slice a m c] 24) = w0 := ⟨_, rfl⟩
  obtain ⟨w1, hw1⟩ : ∃ w1, w0.alloc (.cells #[.int .i64 k', .string s', .int .i64 n', .slice a' m' c'] 24) = w1 := ⟨_, rfl⟩
  have HB1 : Hid (Below w.heap.size w w1) := by
    rw [← hw1, ← hw0]; exact below2 w _ _
  have HA : Hid (BR w1 w.heap.size k s n a m c) := by
    rw [← hw1, ← hw0]; exact (BR.new w k s n a m c).keep (alloc_below _ _)
  have HBb : Hid (BR w1 w0.heap.size k' s' n' a' m' c') := by
    rw [← hw1]; exact BR.new w0 k' s' n' a' m' c'
  have HD : Hid (Below w1.heap.size w1 w1.drew) := below_drewN w1 1
  have HCs : Hid (∀ wx, Below w1.heap.size w1 wx → wx.cell? ⟨w.heap.size, 0, none⟩ = some (.int .i64 k) ∧ wx.cell? ⟨w.heap.size, 1, none⟩ = some (.string s) ∧ wx.cell? ⟨w.heap.size, 2, none⟩ = some (.int .i64 n) ∧ wx.cell? ⟨w0.heap.size, 0, none⟩ = some (.int .i64 k') ∧ wx.cell? ⟨w0.heap.size, 1, none⟩ = some (.string s') ∧ wx.cell? ⟨w0.heap.size, 2, none⟩ = some (.int .i64 n')) := fun wx hx => by
    have h1 := HA.out.keep hx
    have h2 := HBb.out.keep hx
    exact ⟨h1.c0, h1.c1, h1.c2, h2.c0, h2.c1, h2.c2⟩
  obtain ⟨w2, hw2⟩ : ∃ w2, w1.alloc (.cells #[.int .i64 x1, .int .i64 x2, .int .i64 x3] 3) = w2 := ⟨_, rfl⟩
  have HD2 : Hid (Below w1.heap.size w1 w2.drew) := by rw [← hw2]; exact (alloc_below w1 _).drew
  have HO : Hid (w2.drew.cell? ⟨w1.heap.size, 0, none⟩ = some (.int .i64 x1) ∧ w2.drew.cell? ⟨w1.heap.size, 1, none⟩ = some (.int .i64 x2) ∧ w2.drew.cell? ⟨w1.heap.size, 2, none⟩ = some (.int .i64 x3)) := by
    rw [← hw2]; exact ⟨cell_new w1 _ _ 0 _ rfl, cell_new w1 _ _ 1 _ rfl, cell_new w1 _ _ 2 _ rfl⟩
  go_enter Tryz.func28, Tryz.ntmps28
  go_upto_region 1 with fail
  go_cut [5] from 6 to 22 (fun u wx => ∃ wz, wz = wx ∧ u = .int .i64 x ∧ Hid (Below w1.heap.size w1 wz))
  case first =>
    go_region_held3 (fun w' => w'.cell? ⟨w.heap.size, 0, none⟩ = some (.int .i64 k) ∧ w'.cell? ⟨w.heap.size, 1, none⟩ = some (.string s) ∧ w'.cell? ⟨w.heap.size, 2, none⟩ = some (.int .i64 n) ∧ w'.cell? ⟨w0.heap.size, 0, none⟩ = some (.int .i64 k') ∧ w'.cell? ⟨w0.heap.size, 1, none⟩ = some (.string s') ∧ w'.cell? ⟨w0.heap.size, 2, none⟩ = some (.int .i64 n')) (first | exact HCs.out _ HD.out | exact HCs.out _ HD2.out) (first
      | (go_at_call 38; refine (H1 _).mono ?_; rintro e wx ⟨rfl, rfl⟩)
      | (go_at_call 39; refine (H2 _).mono ?_; rintro e wx ⟨rfl, rfl⟩)
      | (go_at_call 40; refine (H3 _).mono ?_; rintro e wx ⟨rfl, rfl⟩)
      | (go_at_call 37; refine (H4 _ _ HO.out.1 HO.out.2.1 HO.out.2.2).mono ?_; rintro e wx ⟨rfl, rfl⟩))
    all_goals
      go_wp2
      go_meet
      exact ⟨_, rfl, rfl, HD2⟩
  case rest =>
  obtain ⟨wz, rfl, rfl, HD3⟩ := hcut
  have p3 := (HA.out.keep HD3.out).c3
  have q3 := (HBb.out.keep HD3.out).c3
  have HB3 : Hid (Below w.heap.size w wz) := step_below HB1 HD3.out
  have HC := HCF.out wz HB3.out
  clear HCF H1 H2 H3 H4 HO HD2 hw2 HCs HD hw0 hw1
  by_cases hx : x = 0
  · have hr : r = y := by rw [← HR.out, hx]; rfl
    clear HR
    subst hr hx
    go_wp2_with fail
    refine HC.mono ?_
    rintro e w5 ⟨hb, rfl⟩
    have HB5 := step_below HB3 hb
    clear hb HC
    go_wp2
    go_ret
    exact ⟨HB5.out, rfl⟩
  · have hr : r = x := by rw [← HR.out]; unfold orI; rw [if_neg hx]
    clear HR HC
    subst hr
    go_wp2
    go_ret
    exact ⟨HB3.out, rfl⟩
theorem compare_all (d : Nat) : CmpC d := by
  induction d with
  | zero => exact compare_step 0 (fun _ h => by omega)
  | succ d ih => exact compare_step (d + 1) (fun d' h => by cases h; exact ih)
end Go.Proofs.YtiamgnfbgiognaaGreatDoor

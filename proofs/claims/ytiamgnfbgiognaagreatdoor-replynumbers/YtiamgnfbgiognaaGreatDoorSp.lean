/-
  The document's Order and Same.
-/
import Derived.Test.YtiamgnfbgiognaaGreatDoorSo
namespace Go.Proofs.YtiamgnfbgiognaaGreatDoor
open Go.RowKit Go.PlainAid

def OrdC (d : Nat) : Prop := ∀ (e e' : El) (t t' : RT) (w : World), VL w d e t → VL w d e' t' → Calls Tryz.prog 18 #[e.v, e'.v] w fun r w' => Below w.heap.size w w' ∧ r = .returned (.int .i64 (ordT t t'))
set_option maxRecDepth 100000 in
set_option maxHeartbeats 4000000 in
theorem Order_step (d : Nat) (ih : ∀ d', d = d' + 1 → OrdC d') : OrdC d := by
  intro e e' t t' w h h'
  have hL1 := h.l
  have hL2 := h'.l
  obtain ⟨k, s, n, a, m, c⟩ := e
  obtain ⟨k', s', n', a', m', c'⟩ := e'
  obtain ⟨tk, ts, tn, l⟩ := t
  obtain ⟨tk', ts', tn', l'⟩ := t'
  have e1 : k = tk := h.k
  have e2 : s = ts := h.s
  have e3 : n = tn := h.n
  have e4 : k' = tk' := h'.k
  have e5 : s' = ts' := h'.s
  have e6 : n' = tn' := h'.n
  subst e1 e2 e3 e4 e5 e6
  have hL1 : Hd w (fun g => g < w.heap.size) d a m c l := hL1
  have hL2 : Hd w (fun g => g < w.heap.size) d a' m' c' l' := hL2
  have HL1 : Hid _ := hL1
  have HL2 : Hid _ := hL2
  have HN : Hid (l.length = m ∧ m ≤ 12 ∧ l'.length = m' ∧ m' ≤ 12) := ⟨hL1.len.1, hL1.len.2, hL2.len.1, hL2.len.2⟩
  clear h h' hL1 hL2
  simp only [El.v]
  obtain ⟨w0, hw0⟩ : ∃ w0, w.alloc (.cells #[.int .i64 k, .string s, .int .i64 n, .slice a m c] 24) = w0 := ⟨_, rfl⟩
  obtain ⟨w1, hw1⟩ : ∃ w1, w0.alloc (.cells #[.int .i64 k', .string s', .int .i64 n', .slice a' m' c'] 24) = w1 := ⟨_, rfl⟩
  have HB1 : Hid (Below w.heap.size w w1) := by
    rw [← hw1, ← hw0]; exact below2 w _ _
  have HA : Hid (BR w1 w.heap.size k s n a m c) := by
    rw [← hw1, ← hw0]; exact (BR.new w k s n a m c).keep (alloc_below _ _)
  have HC : Hid (BR w1 w0.heap.size k' s' n' a' m' c') := by
    rw [← hw1]; exact BR.new w0 k' s' n' a' m' c'
  have p0 := HA.out.c0
  have p1 := HA.out.c1
  have p2 := HA.out.c2
  have p3 := HA.out.c3
  have q0 := HC.out.c0
  have q1 := HC.out.c1
  have q2 := HC.out.c2
  have q3 := HC.out.c3
  have HG := sign_any
  have HW := shows_any k
  by_cases hk : k = k'
  case neg =>
    have hz : ordT (.mk k s n l) (.mk k' s' n' l') = _ := ord_k (t := .mk k s n l) (t' := .mk k' s' n' l') hk
    rw [hz]
    clear hz
    have HGk := HG (decide (k < k'))
    have hkk : (RT.mk k s n l).k = k := rfl
    have hkk' : (RT.mk k' s' n' l').k = k' := rfl
    rw [hkk, hkk']
    generalize (if decide (k < k') then (-1 : Int) else 1) = z at HGk
    go_enter Tryz.func18, Tryz.ntmps18
    go_wp2_with fail
    refine (HGk _).mono ?_
    rintro e w2 ⟨rfl, rfl⟩
    go_wp2
    go_ret
    exact ⟨HB1.out, rfl⟩
  subst hk
  by_cases h3 : k = 3
  · subst h3
    rw [ord_n]
    have hs3 : hasS 3 = false := rfl
    have hn3 : hasN 3 = true := rfl
    have hl3 : hasL 3 = false := rfl
    rw [hs3, hn3, hl3] at HW
    by_cases hn : n = n'
    · subst hn
      rw [if_pos rfl]
      go_enter Tryz.func18, Tryz.ntmps18
      go_wp2_with fail
      refine (HW _).mono ?_
      rintro e w2 ⟨rfl, rfl⟩
      go_wp2
      go_ret
      exact ⟨HB1.out, rfl⟩
    · rw [if_neg hn]
      have HGk := HG (decide (n < n'))
      generalize (if decide (n < n') then (-1 : Int) else 1) = z at HGk
      go_enter Tryz.func18, Tryz.ntmps18
      go_wp2_with fail
      refine (HW _).mono ?_
      rintro e w2 ⟨rfl, rfl⟩
      go_wp2_with fail
      refine (HGk _).mono ?_
      rintro e w2 ⟨rfl, rfl⟩
      go_wp2
      go_ret
      exact ⟨HB1.out, rfl⟩
  have hN3 : hasN k = false := decide_eq_false h3
  rw [hN3] at HW
  by_cases hs : hasS k = true
  · rw [ord_s hs]
    have hl3 : hasL k = false := decide_eq_false (by have : k = 1 ∨ k = 2 ∨ k = 4 := of_decide_eq_true hs; omega)
    rw [hs, hl3] at HW
    by_cases hss : s = s'
    · subst hss
      rw [if_pos rfl]
      have hq : (s.toList == s.toList) = true := by rw [str_beq]; simp
      have hq2 : (s.toList != s.toList) = false := by rw [bne, hq]; rfl
      go_enter Tryz.func18, Tryz.ntmps18
      go_wp2_with fail
      refine (HW _).mono ?_
      rintro e w2 ⟨rfl, rfl⟩
      go_wp2
      go_ret
      exact ⟨HB1.out, rfl⟩
    · rw [if_neg hss]
      have hq : (s.toList == s'.toList) = false := by rw [str_beq]; exact decide_eq_false hss
      have hq2 : (s.toList != s'.toList) = true := by rw [bne, hq]; rfl
      have HGk := HG (Op.bytesLess s.toList s'.toList)
      generalize (if Op.bytesLess s.toList s'.toList then (-1 : Int) else 1) = z at HGk
      go_enter Tryz.func18, Tryz.ntmps18
      go_wp2_with fail
      refine (HW _).mono ?_
      rintro e w2 ⟨rfl, rfl⟩
      go_wp2_with fail
      refine (HGk _).mono ?_
      rintro e w2 ⟨rfl, rfl⟩
      go_wp2
      go_ret
      exact ⟨HB1.out, rfl⟩
  have hS3 : hasS k = false := by simpa using hs
  rw [hS3] at HW
  by_cases hl : hasL k = true
  case neg =>
    have hl3 : hasL k = false := by simpa using hl
    rw [ord_0 hS3 hN3 hl3]
    rw [hl3] at HW
    clear hs hl
    go_enter Tryz.func18, Tryz.ntmps18
    go_wp2_with fail
    refine (HW _).mono ?_
    rintro e w2 ⟨rfl, rfl⟩
    go_wp2
    go_ret
    exact ⟨HB1.out, rfl⟩
  rw [ord_l hl]
  rw [hl] at HW
  obtain ⟨z, hz⟩ : ∃ z, cmpL (l.map can) (l'.map can) = z := ⟨_, rfl⟩
  have HZ : Hid _ := hz
  rw [hz]
  clear hz hs hl hS3 hN3 h3
  go_enter Tryz.func18, Tryz.ntmps18
  go_wp2_with fail
  refine (HW _).mono ?_
  rintro e w2 ⟨rfl, rfl⟩
  go_wp2
  go_loopg [8] m (fun gk iv wr => ∃ i : Nat, i + gk = m ∧ iv = .int .i64 i ∧ i ≤ m' ∧ Hid (Below w2.heap.size w2 wr) ∧ Hid ((l.map can).take i = (l'.map can).take i))
  case atStart => exact ⟨0, by omega, rfl, Nat.zero_le _, Below.refl _ _, (rfl : ([] : List RT) = [])⟩
  case round =>
    obtain ⟨i, hi, rfl, him', HB, HT⟩ := hrel
    have HBw : Hid (Below w.heap.size w wr) := step_below HB1 HB.out
    clear p0 p1 p2 p3 q0 q1 q2 q3
    have p3 := (HA.out.keep HB.out).c3
    have q3 := (HC.out.keep HB.out).c3
    by_cases h8 : (i : Int) < m
    · by_cases h9 : (i : Int) < m'
      · obtain ⟨d', g1, o1, x1, t1, hd, rfl, hg1, ht1, hv1, cx0, cx1, cx2, cx3⟩ := (Hd.keep (fun g hg _ => HBw.out.block g hg) d HL1.out).get (j := i) (by omega)
        obtain ⟨d2, g2, o2, x2, t2, hd2, rfl, hg2, ht2, hv2, cy0, cy1, cy2, cy3⟩ := (Hd.keep (fun g hg _ => HBw.out.block g hg) d HL2.out).get (j := i) (by omega)
        obtain rfl : d' = d2 := by omega
        have HCc : Hid (∀ wx, Below wr.heap.size wr wx → Calls Tryz.prog 18 #[x1.v, x2.v] wx fun r w' => Below wx.heap.size wx w' ∧ r = .returned (.int .i64 (ordT t1 t2))) := fun wx hx => ih d' hd x1 x2 t1 t2 wx (hv1.lo.kp hx) (hv2.lo.kp hx)
        have HCs : Hid (∀ wx, Below wr.heap.size wr wx → wx.cell? ⟨w.heap.size, 3, none⟩ = some (.slice (some ⟨g1, o1, none⟩) m c) ∧ wx.cell? ⟨w0.heap.size, 3, none⟩ = some (.slice (some ⟨g2, o2, none⟩) m' c') ∧ wx.cell? ⟨g1, o1 + i * 4, none⟩ = some (.int .i64 x1.k) ∧ wx.cell? ⟨g1, o1 + i * 4 + 1, none⟩ = some (.string x1.s) ∧ wx.cell? ⟨g1, o1 + i * 4 + 2, none⟩ = some (.int .i64 x1.n) ∧ wx.cell? ⟨g1, o1 + i * 4 + 3, none⟩ = some (.slice x1.a x1.m x1.c) ∧ wx.cell? ⟨g2, o2 + i * 4, none⟩ = some (.int .i64 x2.k) ∧ wx.cell? ⟨g2, o2 + i * 4 + 1, none⟩ = some (.string x2.s) ∧ wx.cell? ⟨g2, o2 + i * 4 + 2, none⟩ = some (.int .i64 x2.n) ∧ wx.cell? ⟨g2, o2 + i * 4 + 3, none⟩ = some (.slice x2.a x2.m x2.c)) := fun wx hx => by
          have hl1 := World.block_lt_of_cell? wr _ cx0
          have hl2 := World.block_lt_of_cell? wr _ cy0
          have hA := (HA.out.keep HB.out).keep hx
          have hC := (HC.out.keep HB.out).keep hx
          exact ⟨hA.c3, hC.c3, (hx.cell (p := ⟨g1, o1 + i * 4, none⟩) hl1).trans cx0, (hx.cell (p := ⟨g1, o1 + i * 4 + 1, none⟩) hl1).trans cx1, (hx.cell (p := ⟨g1, o1 + i * 4 + 2, none⟩) hl1).trans cx2, (hx.cell (p := ⟨g1, o1 + i * 4 + 3, none⟩) hl1).trans cx3, (hx.cell (p := ⟨g2, o2 + i * 4, none⟩) hl2).trans cy0, (hx.cell (p := ⟨g2, o2 + i * 4 + 1, none⟩) hl2).trans cy1, (hx.cell (p := ⟨g2, o2 + i * 4 + 2, none⟩) hl2).trans cy2, (hx.cell (p := ⟨g2, o2 + i * 4 + 3, none⟩) hl2).trans cy3⟩
        have HZ2 : Hid (ordT t1 t2 ≠ 0 → z = ordT t1 t2) := fun h => by
          rw [← HZ.out, cmpL_take (l.map can) (l'.map can) i (can t1) (can t2) HT.out (by rw [List.getElem?_map, ht1]; rfl) (by rw [List.getElem?_map, ht2]; rfl)]
          have h' : cmpT (can t1) (can t2) ≠ 0 := h
          unfold orI; rw [if_neg h']; rfl
        have HT2 : Hid (ordT t1 t2 = 0 → (l.map can).take (i + 1) = (l'.map can).take (i + 1)) := fun h => by
          show _ = _
          rw [List.take_add_one, List.take_add_one, List.getElem?_map, List.getElem?_map, ht1, ht2, HT.out, Option.map_some, Option.map_some, cmpT_zero.1 h]
        have HD : Hid (Below wr.heap.size wr wr.drew) := below_drewN wr 1
        have hi12 : i ≤ 12 := by have := HN.out.2.1; omega
        have hin : i < m := by omega
        have hin' : i < m' := by omega
        obtain ⟨xk, xs, xn, xa, xm, xc⟩ := x1
        obtain ⟨yk, ys, yn, ya, ym, yc⟩ := x2
        simp only [El.v] at HCc
        simp only at HCs
        generalize ordT t1 t2 = y at HCc HZ2 HT2
        clear cx0 cx1 cx2 cx3 cy0 cy1 cy2 cy3 hv1 hv2 ht1 ht2 hg1 hg2 HL1 HL2
        go_upto_region 13 with fail
        go_cut [9] from 72 to 82 (fun u wx => ∃ wz, wz = wx ∧ u = .int .i64 y ∧ Hid (Below wr.heap.size wr wz))
        case first =>
          go_region_held3 (fun w' => w'.cell? ⟨w.heap.size, 3, none⟩ = some (.slice (some ⟨g1, o1, none⟩) m c) ∧ w'.cell? ⟨w0.heap.size, 3, none⟩ = some (.slice (some ⟨g2, o2, none⟩) m' c') ∧ w'.cell? ⟨g1, o1 + i * 4, none⟩ = some (.int .i64 xk) ∧ w'.cell? ⟨g1, o1 + i * 4 + 1, none⟩ = some (.string xs) ∧ w'.cell? ⟨g1, o1 + i * 4 + 2, none⟩ = some (.int .i64 xn) ∧ w'.cell? ⟨g1, o1 + i * 4 + 3, none⟩ = some (.slice xa xm xc) ∧ w'.cell? ⟨g2, o2 + i * 4, none⟩ = some (.int .i64 yk) ∧ w'.cell? ⟨g2, o2 + i * 4 + 1, none⟩ = some (.string ys) ∧ w'.cell? ⟨g2, o2 + i * 4 + 2, none⟩ = some (.int .i64 yn) ∧ w'.cell? ⟨g2, o2 + i * 4 + 3, none⟩ = some (.slice ya ym yc)) (exact HCs.out _ HD.out) (first
            | (go_at_call 18; refine (HCc.out _ HD.out).mono ?_; rintro e wx ⟨hb, rfl⟩; replace HD := step_below HD hb; clear hb))
          all_goals
            go_wp2
            go_meet
            exact ⟨_, rfl, rfl, HD⟩
        case rest =>
        obtain ⟨wz, rfl, rfl, HD3⟩ := hcut
        have HB3 : Hid (Below w2.heap.size w2 wz) := step_below HB HD3.out
        have HE : Hid (Below w.heap.size w wz) := step_below HB1 HB3.out
        clear HD HCc HCs p3 q3
        by_cases hy : y = 0
        · have HT3 : Hid _ := HT2.out hy
          subst hy
          clear HT2 HZ2
          go_wp2
          go_roundg (gk - 1)
          case measure => omega
          case rel => exact ⟨i + 1, by omega, by go_num, by omega, HB3, HT3⟩
        · have hz := HZ2.out hy
          subst hz
          clear HT2 HZ2
          go_wp2
          go_ret
          exact ⟨HE.out, rfl⟩
      · have hz : z = 1 := by
          rw [← HZ.out]
          exact cmpL_more (i := i) (by rw [List.length_map, HN.out.2.2.1]; omega) (by rw [List.length_map, HN.out.1]; omega) HT.out
        subst hz
        have hmm : ¬ (m : Int) = m' := by omega
        have hml : ¬ (m : Int) < m' := by omega
        have HG2 := HG false
        have e1 : (if false = true then (-1 : Int) else 1) = 1 := rfl
        rw [e1] at HG2
        clear e1 HL1 HL2
        go_wp2_with fail
        refine (HG2 _).mono ?_
        rintro e w3 ⟨rfl, rfl⟩
        go_wp2
        go_ret
        exact ⟨HBw.out, rfl⟩
    · have hz := cmpL_end (l := l.map can) (l' := l'.map can) (i := i) (by rw [List.length_map, HN.out.1]; omega) HT.out
      rw [HZ.out, List.length_map, List.length_map, HN.out.1, HN.out.2.2.1] at hz
      by_cases hmm : m < m'
      · rw [if_pos hmm] at hz
        subst hz
        have hmi : ¬ (m : Int) = m' := by omega
        have hml : (m : Int) < m' := by omega
        have HG2 := HG true
        have e1 : (if true = true then (-1 : Int) else 1) = -1 := rfl
        rw [e1] at HG2
        clear e1 HL1 HL2
        go_wp2_with fail
        refine (HG2 _).mono ?_
        rintro e w3 ⟨rfl, rfl⟩
        go_wp2
        go_ret
        exact ⟨HBw.out, rfl⟩
      · rw [if_neg hmm] at hz
        have hmi : m = m' := by omega
        subst hz hmi
        clear HL1 HL2
        go_wp2
        go_ret
        exact ⟨HBw.out, rfl⟩
theorem Order_all (d : Nat) : OrdC d := by
  induction d with
  | zero => exact Order_step 0 (fun _ h => by omega)
  | succ d ih => exact Order_step (d + 1) (fun d' h => by cases h; exact ih)
set_option maxRecDepth 100000 in
theorem rSame_any (d : Nat) (e e' : El) (t t' : RT) (w : World) (h : VL w d e t) (h' : VL w d e' t') : Calls Tryz.prog 5 #[e.v, e'.v] w fun r w' => Below w.heap.size w w' ∧ r = .returned (.bool (sameT t t')) := by
  have HO : Hid (∀ wx, Below w.heap.size w wx → Calls Tryz.prog 18 #[e.v, e'.v] wx fun r w' => Below wx.heap.size wx w' ∧ r = .returned (.int .i64 (ordT t t'))) := fun wx hx => Order_all d e e' t t' wx (h.kp hx) (h'.kp hx)
  have HQ : Hid (decide (ordT t t' = 0) = sameT t t') := rfl
  generalize sameT t t' = b at HQ
  generalize ordT t t' = z at HO HQ
  clear h h'
  obtain ⟨k, s, n, a, m, c⟩ := e
  obtain ⟨k', s', n', a', m', c'⟩ := e'
  simp only [El.v] at HO ⊢
  obtain ⟨w0, hw0⟩ : ∃ w0, w.alloc (.cells #[.int .i64 k, .string s, .int .i64 n, .slice a m c] 24) = w0 := ⟨_, rfl⟩
  obtain ⟨w1, hw1⟩ : ∃ w1, w0.alloc (.cells #[.int .i64 k', .string s', .int .i64 n', .slice a' m' c'] 24) = w1 := ⟨_, rfl⟩
  have HB1 : Hid (Below w.heap.size w w1) := by
    rw [← hw1, ← hw0]; exact below2 w _ _
  have hA : BR w1 w.heap.size k s n a m c := by
    rw [← hw1, ← hw0]; exact (BR.new w k s n a m c).keep (alloc_below _ _)
  have hC : BR w1 w0.heap.size k' s' n' a' m' c' := by
    rw [← hw1]; exact BR.new w0 k' s' n' a' m' c'
  have p0 := hA.c0
  have p1 := hA.c1
  have p2 := hA.c2
  have p3 := hA.c3
  have q0 := hC.c0
  have q1 := hC.c1
  have q2 := hC.c2
  have q3 := hC.c3
  have HO1 := HO.out w1 HB1.out
  clear hA hC HO
  go_enter Tryz.func5, Tryz.ntmps5
  go_wp2_with fail
  refine HO1.mono ?_
  rintro e w2 ⟨hb, rfl⟩
  have HB2 := step_below HB1 hb
  clear hb HO1
  by_cases hz : z = 0
  · have hb : b = true := by rw [← HQ.out]; exact decide_eq_true hz
    subst hb hz
    go_wp2
    go_ret
    exact ⟨HB2.out, rfl⟩
  · have hb : b = false := by rw [← HQ.out]; exact decide_eq_false hz
    subst hb
    go_wp2
    go_ret
    exact ⟨HB2.out, by first | rfl | (congr 2; simpa using hz)⟩
end Go.Proofs.YtiamgnfbgiognaaGreatDoor

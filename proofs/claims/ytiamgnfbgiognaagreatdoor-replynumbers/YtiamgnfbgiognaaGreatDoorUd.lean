/-
  The document's Sorted.
-/
import Derived.Test.YtiamgnfbgiognaaGreatDoorUc
import Derived.Test.YtiamgnfbgiognaaGreatDoorTu
namespace Go.Proofs.YtiamgnfbgiognaaGreatDoor
open Go.RowKit Go.PlainAid

theorem enter_rSorted (args : Array Value) (wx : World) : (callFunc 20 args).run Tryz.prog wx = .ok (.enter 20 args) wx := by
  go_simp
theorem Vls.grownG {P : Nat → Prop} {w w2 : World} {a a2 : Option Addr} {d : Nat} {es : List El} {ts : List RT} (h : Vls w (fun g => P g ∧ some g ≠ a.map (·.block)) d es ts) (hg : w.grownBy w2 (a.map (·.block))) (hgo : Goes w a a2) : Vls w2 (fun g => P g ∧ some g ≠ a2.map (·.block)) d es ts := by
  have h1 : Vls w (fun g => (P g ∧ some g ≠ a.map (·.block)) ∧ g < w.heap.size) d es ts := h.mono (fun g hl hf => ⟨hf, hl⟩)
  have h2 := h1.keep (w' := w2) (fun g hl hf => hg.block g hl hf.1.2)
  refine h2.mono (fun g _ hf => ⟨hf.1.1, ?_⟩)
  rcases hgo with e | e
  · rw [e]; exact hf.1.2
  · rw [e]; intro e2; cases e2; exact Nat.lt_irrefl _ hf.2
theorem Stay.tb {w w1 w2 : World} {M : List Nat} (h : Stay w w1 M) (hb : Below w.heap.size w1 w2) : Stay w w2 M :=
  ⟨hb.os.trans h.os, hb.tape.trans h.tape, hb.output.trans h.output, Nat.le_trans h.size hb.size, fun k hk hn => (hb.block k hk).trans (h.block k hk hn)⟩
theorem prs_take {α : Type} : ∀ (l : List α) (h : Nat), l.length / 2 = h → prs (l.take (2 * h)) = prs l
  | [], h, _ => by simp
  | [_], h, e => by
    have : h = 0 := by simp at e; omega
    subst this; rfl
  | a :: b :: r, h, e => by
    obtain ⟨k, rfl⟩ : ∃ k, h = k + 1 := ⟨r.length / 2, by simp at e; omega⟩
    have ih := prs_take r k (by simp at e; omega)
    rw [show 2 * (k + 1) = 2 * k + 1 + 1 by omega, List.take_succ_cons, List.take_succ_cons, prs, prs, ih]
/-- A reply came back, sorted as the document asks. -/
def RetS (w : World) (F : Nat → Prop) (d : Nat) (t : RT) (r : Ending) (w' : World) : Prop := Below w.heap.size w w' ∧ ∃ (e' : El) (t' : RT), r = .returned e'.v ∧ Vl w' (fun g => (F g ∧ g < w.heap.size) ∨ w.heap.size ≤ g) d e' t' ∧ can t' = srt t
def SrsC (d : Nat) : Prop := ∀ (F : Nat → Prop) (e : El) (t : RT) (w : World), Vl w F d e t → Calls Tryz.prog 20 #[e.v] w (RetS w F d t)
set_option maxRecDepth 100000 in
set_option maxHeartbeats 8000000 in
theorem rSorted_step (d : Nat) (ih : ∀ d', d = d' + 1 → SrsC d') : SrsC d := by
  intro F e t w h0
  obtain ⟨G, hG⟩ : ∃ G : Nat → Prop, (fun g => F g ∧ g < w.heap.size) = G := ⟨_, rfl⟩
  have HG : Hid (∀ g, G g → F g ∧ g < w.heap.size) := fun g hg => by rw [← hG] at hg; exact hg
  have h : Vl w G d e t := by rw [← hG]; exact h0.mono (fun g hl hf => ⟨hf, hl⟩)
  have hL := h.l
  obtain ⟨k, s, n, a, m, c⟩ := e
  obtain ⟨tk, ts, tn, l⟩ := t
  have e1 : k = tk := h.k
  have e2 : s = ts := h.s
  have e3 : n = tn := h.n
  subst e1 e2 e3
  have hL : Hd w G d a m c l := hL
  have HL : Hid _ := hL
  have HN : Hid (l.length = m ∧ m ≤ 12) := ⟨hL.len.1, hL.len.2⟩
  have HD0 : Hid (d = 0 → m = 0) := fun h0 => by
    subst h0
    have := hL.1
    have h2 := hL.len.1
    rw [this] at h2
    simpa using h2.symm
  have hm12 : m ≤ 12 := hL.len.2
  clear h hL h0 hG
  simp only [El.v]
  obtain ⟨w0, hw0⟩ : ∃ w0, w.alloc (.cells #[.int .i64 k, .string s, .int .i64 n, .slice a m c] 24) = w0 := ⟨_, rfl⟩
  obtain ⟨w1, hw1⟩ : ∃ w1, w0.alloc (.cells #[.int .i64 0, .string ⟨#[]⟩, .int .i64 0, .slice none 0 0] 24) = w1 := ⟨_, rfl⟩
  have hb01 : Below w.heap.size w w1 := by rw [← hw1, ← hw0]; exact below2 w _ _
  have hA1 : BR w1 w.heap.size k s n a m c := by
    rw [← hw1, ← hw0]; exact (BR.new w k s n a m c).keep (alloc_below _ _)
  have hZ1 : BR w1 w0.heap.size 0 ⟨#[]⟩ 0 none 0 0 := by rw [← hw1]; exact BR.new w0 _ _ _ _ _ _
  have HB01 : Hid _ := hb01
  have HA1 : Hid _ := hA1
  have HZ1 : Hid _ := hZ1
  have HN01 : Hid (w.heap.size < w0.heap.size) := by rw [← hw0]; exact alloc_lt w _ _
  have p0 := hA1.c0
  have p1 := hA1.c1
  have p2 := hA1.c2
  have p3 := hA1.c3
  clear hb01 hA1 hZ1
  by_cases hl : hasL k = true
  case neg =>
    have hl : hasL k = false := by simpa using hl
    have HE : Hid (∀ w9, w9 = (((w1.setCell ⟨w0.heap.size, 0, none⟩ (.int .i64 k)).setCell ⟨w0.heap.size, 1, none⟩ (.string s)).setCell ⟨w0.heap.size, 2, none⟩ (.int .i64 n)).setCell ⟨w0.heap.size, 3, none⟩ (.slice a m c) → Hid (w9.heap[w0.heap.size]? = some (.cells #[.int .i64 k, .string s, .int .i64 n, .slice a m c] 24 (0, 0))) ∧ Hid (RetS w F d (.mk k s n l) (.returned (.agg #[.int .i64 k, .string s, .int .i64 n, .slice a m c])) w9)) := by
      intro w9 h9
      have hZ9 := HZ1.out.put k s n a m c
      rw [← h9] at hZ9
      have hs9 : Stay w1 w9 [w0.heap.size] := by rw [h9]; exact Stay.set4
      have hb9 : Below w.heap.size w w9 := HB01.out.trans (hs9.below (fun g hg => by have := HN01.out; simp at hg; omega) HB01.out.size)
      refine ⟨hZ9.blk, hb9, ⟨k, s, n, a, m, c⟩, .mk k s n l, rfl, ⟨rfl, rfl, rfl, ?_⟩, can_none hl s n l⟩
      exact (Hd.keep (fun g hg hf => hb9.block g hg) d HL.out).mono (fun g _ hf => .inl (HG.out g hf)) d
    obtain ⟨HE1, HE2⟩ := HE.out _ rfl
    have x0 := HZ1.out.c0
    have x1 := HZ1.out.c1
    have x2 := HZ1.out.c2
    have x3 := HZ1.out.c3
    have y0 := HZ1.out.fz 0
    have y1 := HZ1.out.fz 1
    have y2 := HZ1.out.fz 2
    have y3 := HZ1.out.fz 3
    clear HE
    go_enter Tryz.func20, Tryz.ntmps20
    go_wp2_with fail
    refine (shows_any k _).mono ?_
    rintro e wq ⟨rfl, rfl⟩
    go_wp2
    exact ret_R rfl rfl HE1.out HE2.out
  case pos =>
  go_enter Tryz.func20, Tryz.ntmps20
  go_wp2_with fail
  refine (shows_any k _).mono ?_
  rintro e wq ⟨rfl, rfl⟩
  go_upto_region 5 with fail
  obtain ⟨w2, hw2⟩ : ∃ w2, wq.alloc (.cells #[.int .i64 k, .string s, .int .i64 n, .slice none 0 0] 24) = w2 := ⟨_, rfl⟩
  rw [hw2]
  have hb2 : Below wq.heap.size wq w2 := by rw [← hw2]; exact alloc_below wq _
  have HB2 : Hid (Below w.heap.size w w2) := step_below HB01 hb2
  have HA2 : Hid _ := HA1.out.keep hb2
  have HZ2 : Hid _ := HZ1.out.keep hb2
  have HO2 : Hid (BR w2 wq.heap.size k s n none 0 0) := by rw [← hw2]; exact BR.new wq _ _ _ _ _ _
  have HNe : Hid (w.heap.size < w0.heap.size ∧ w0.heap.size < wq.heap.size ∧ wq.heap.size < w2.heap.size) := ⟨HN01.out, HZ1.out.lt, HO2.out.lt⟩
  have q0 := HA2.out.c0
  have q3 := HA2.out.c3
  clear hb2 hw2 hw1 hw0
  go_wp2
  go_loopg [7] m (fun gk iv wr => ∃ (i : Nat) (ra : Option Addr) (rc : Nat) (es : List El) (xs : List RT), i + gk = m ∧ iv = .int .i64 i ∧ Hid (BR wr wq.heap.size k s n ra i rc) ∧ Hid (OwnE wr w2.heap.size ra i rc es) ∧ Hid (Vls wr (fun g => (G g ∨ w2.heap.size ≤ g) ∧ some g ≠ ra.map (·.block)) (d - 1) es xs) ∧ Hid (xs.map can = (l.take i).map srt) ∧ Hid (BR wr w.heap.size k s n a m c) ∧ Hid (BR wr w0.heap.size 0 ⟨#[]⟩ 0 none 0 0) ∧ Hid (Below w.heap.size w wr) ∧ Hid (w2.heap.size ≤ wr.heap.size))
  case atStart => exact ⟨0, none, 0, [], [], by omega, rfl, HO2, OwnR.nil _ _ _ _, Vls.nil _ _ _, rfl, HA2, HZ2, HB2, Nat.le_refl _⟩
  case round =>
    obtain ⟨i, ra, rc, es, xs, hi, rfl, HR, HO, HV, HX, HA, HZ, HB, HS⟩ := hrel
    clear q0 q3 p0 p1 p2 p3
    by_cases h8 : (i : Int) < m
    · obtain ⟨d', g1, o1, x1, t1, hd, rfl, hg1, ht1, hv1, cx0, cx1, cx2, cx3⟩ := (Hd.keep (fun g hg _ => HB.out.block g hg) d HL.out).get (j := i) (by omega)
      have HC : Calls Tryz.prog 20 #[x1.v] wr.drew (RetS wr.drew G d' t1) := ih d' hd G x1 t1 wr.drew (hv1.kp (below_drewN wr 1))
      have HD : Hid (Below wr.heap.size wr wr.drew) := below_drewN wr 1
      have HTk : Hid ((l.take (i + 1)).map srt = (l.take i).map srt ++ [srt t1]) := by show _ = _; rw [List.take_add_one, ht1, List.map_append]; rfl
      have a3 := (HA.out.keep HD.out).c3
      have r3 := (HR.out.keep HD.out).c3
      have hl1 := World.block_lt_of_cell? wr _ cx0
      have dx0 := (HD.out.cell (p := ⟨g1, o1 + i * 4, none⟩) hl1).trans cx0
      have dx1 := (HD.out.cell (p := ⟨g1, o1 + i * 4 + 1, none⟩) hl1).trans cx1
      have dx2 := (HD.out.cell (p := ⟨g1, o1 + i * 4 + 2, none⟩) hl1).trans cx2
      have dx3 := (HD.out.cell (p := ⟨g1, o1 + i * 4 + 3, none⟩) hl1).trans cx3
      have s3 := HA.out.c3
      have hin : i < m := by omega
      have hi12 : i ≤ 12 := by omega
      have HRb : Hid (∀ g, ra.map (·.block) = some g → w2.heap.size ≤ g ∧ g < wr.heap.size) := fun g hg => ⟨(OwnR.lt HO.out hg).1, (OwnR.lt HO.out hg).2.1⟩
      have hd1 : d - 1 = d' := by omega
      rw [hd1] at HV
      obtain ⟨xk, xs', xn, xa, xm, xc⟩ := x1
      simp only at dx0 dx1 dx2 dx3
      simp only [El.v] at HC
      clear cx0 cx1 cx2 cx3 hv1 ht1 hg1
      go_upto_region 8 with fail
      go_region_law (first
          | (refine step_append_r rfl (.tmp 37) (.tmp 44) rfl eltR w2.heap.size (by first | rfl | (simp [Act.eval] <;> rfl)) HO6.out (rcells [⟨Xk, Xs, Xn, Xa, Xm, Xc⟩]) (by first | rfl | (simp [Act.eval] <;> rfl)) rfl HNw.out (rcells_one _) (by decide) (by omega) (by unfold maxLen; omega) HS6.out ?_; intro a8 n8 c8 w8 hn8 HO8 HG8 HGo8; have HR8 : Hid (BR w8 wq.heap.size k s n ra i rc) := HR6.out.kept (HG8.out.block _ HR6.out.lt (fun e => by have h1 := (HRb.out _ e.symm).1; have h2 := HNe.out; omega)); have v3 := HR8.out.c3; have vf := HR8.out.fz 3)
          | (refine step_call rfl enter_rSorted (.tmp 42) rfl (by simp [Act.eval] <;> rfl) HC ?_; rintro e w5 ⟨hb5, X, tX, rfl, hvX, hcan⟩; have HCan : Hid _ := hcan; clear hcan; (obtain ⟨Xk, Xs, Xn, Xa, Xm, Xc⟩ := X); refine ⟨_, rfl, ?_⟩; have hb5' : Below wr.heap.size wr w5 := HD.out.trans (hb5.mono HD.out.size); obtain ⟨w6, hw6⟩ : ∃ w6, w5.alloc (.cells #[.int .i64 Xk, .string Xs, .int .i64 Xn, .slice Xa Xm Xc] 24) = w6 := ⟨_, rfl⟩; have hb6 : Below w5.heap.size w5 w6 := (by rw [← hw6]; exact alloc_below w5 _); have hb56 : Below wr.heap.size wr w6 := hb5'.trans (hb6.mono hb5'.size); have hI : BR w6 w5.heap.size Xk Xs Xn Xa Xm Xc := (by rw [← hw6]; exact BR.new w5 _ _ _ _ _ _); have HI6 : Hid _ := hI; have HB56 : Hid _ := hb56; have HR6 : Hid _ := HR.out.keep hb56; have HO6 : Hid (OwnE w6 w2.heap.size ra i rc es) := OwnR.keep HO.out hb56; have HS6 : Hid (w2.heap.size ≤ w6.heap.size) := Nat.le_trans HS.out hb56.size; have HX6 : Hid (Vl w6 (fun g => G g ∨ wr.heap.size ≤ g) d' ⟨Xk, Xs, Xn, Xa, Xm, Xc⟩ tX) := (hvX.kp hb6).mono (fun g _ hg => hg.imp And.left (fun h => Nat.le_trans HD.out.size h)); have HNw : Hid (∀ (j : Nat) (v : Value), (rcells [⟨Xk, Xs, Xn, Xa, Xm, Xc⟩])[j]? = some v → w6.cell? ((⟨w5.heap.size, 0, none⟩ : Addr).add j) = some v) := fun j v hv => new_row hI j v hv; have y3 := (HR.out.keep hb5').c3; have z3 := HR6.out.c3; (simp only [El.v]); clear hb5 hb5' hb6 hb56 hI hvX))
      all_goals
        have hne := HNe.out
        have HRn : Hid (BR (w8.setCell ⟨wq.heap.size, 3, none⟩ (.slice a8 (i + 1) c8)) wq.heap.size k s n a8 (i + 1) c8) := HR8.out.put3 _ _ _
        have HOn : Hid (OwnE (w8.setCell ⟨wq.heap.size, 3, none⟩ (.slice a8 (i + 1) c8)) w2.heap.size a8 (i + 1) c8 (es ++ [⟨Xk, Xs, Xn, Xa, Xm, Xc⟩])) := by
          have h1 := HO8.out
          try rw [hn8] at h1
          rw [← rcells_append] at h1
          exact OwnR.kept h1 (fun g hg => (Stay.set (q := wq.heap.size)).block g (OwnR.lt h1 hg).2.1 (by have := (OwnR.lt h1 hg).1; simp; omega))
        have HVn : Hid (Vls (w8.setCell ⟨wq.heap.size, 3, none⟩ (.slice a8 (i + 1) c8)) (fun g => (G g ∨ w2.heap.size ≤ g) ∧ some g ≠ a8.map (·.block)) (d - 1) (es ++ [⟨Xk, Xs, Xn, Xa, Xm, Xc⟩]) (xs ++ [tX])) := by
          rw [hd1]
          have h1 : Vl w6 (fun g => (G g ∨ w2.heap.size ≤ g) ∧ some g ≠ ra.map (·.block)) d' ⟨Xk, Xs, Xn, Xa, Xm, Xc⟩ tX := HX6.out.mono (fun g _ hg => ⟨hg.imp id (fun h => Nat.le_trans HS.out h), fun e => by
            have h2 := HRb.out g e.symm
            rcases hg with h | h
            · have := (HG.out g h).2; omega
            · omega⟩)
          have h2 := ((HV.out.kp HB56.out).append (Vls.one h1)).grownG HG8.out HGo8.out
          exact h2.keep (fun g hl hf => (Stay.set (q := wq.heap.size)).block g hl (by
            simp
            rcases hf.1 with h | h
            · have := (HG.out g h).2; omega
            · omega))
        have HXn : Hid ((xs ++ [tX]).map can = (l.take (i + 1)).map srt) := by show _ = _; rw [List.map_append, HX.out, HTk.out, ← HCan.out]; rfl
        have HAn : Hid (BR (w8.setCell ⟨wq.heap.size, 3, none⟩ (.slice a8 (i + 1) c8)) w.heap.size k s n (some ⟨g1, o1, none⟩) m c) := ((HA.out.keep HB56.out).kept (HG8.out.block _ (HA.out.keep HB56.out).lt (fun e => by have := (HRb.out _ e.symm).1; omega))).stay (Stay.set (q := wq.heap.size)) (by simp; omega)
        have HZn : Hid (BR (w8.setCell ⟨wq.heap.size, 3, none⟩ (.slice a8 (i + 1) c8)) w0.heap.size 0 ⟨#[]⟩ 0 none 0 0) := ((HZ.out.keep HB56.out).kept (HG8.out.block _ (HZ.out.keep HB56.out).lt (fun e => by have := (HRb.out _ e.symm).1; omega))).stay (Stay.set (q := wq.heap.size)) (by simp; omega)
        have HBn : Hid (Below w.heap.size w (w8.setCell ⟨wq.heap.size, 3, none⟩ (.slice a8 (i + 1) c8))) := by
          have h0 := step_below HB HB56.out
          have h1 := (OwnR.below HO6.out HG8.out HS6.out).mono (show w.heap.size ≤ w2.heap.size by omega)
          have h2 := h0.out.trans h1
          exact h2.trans ((Stay.set (q := wq.heap.size)).below (fun i hi => by simp at hi; omega) h2.size)
        have HSn : Hid (w2.heap.size ≤ ((w8.setCell ⟨wq.heap.size, 3, none⟩ (.slice a8 (i + 1) c8))).heap.size) := Nat.le_trans HS6.out (Nat.le_trans HG8.out.size (Stay.set (w := w8) (q := wq.heap.size)).size)
        clear HR HO HV HA HZ HB HS HR8 HO8 HG8 HGo8 HO6 HR6 HI6 HX6 HNw HC a3 r3 dx0 dx1 dx2 dx3 s3 y3 z3 HX HCan HTk
        go_wp2
        go_roundg (gk - 1)
        case measure => omega
        case rel => exact ⟨i + 1, a8, c8, _, _, by omega, by go_num, HRn, HOn, HVn, HXn, HAn, HZn, HBn, HSn⟩
    · have him : i = m := by omega
      subst him
      have HXe : Hid (xs.map can = l.map srt) := by
        have h1 := HX.out
        rw [List.take_of_length_le (by rw [HN.out.1]; omega)] at h1
        exact h1
      have HVe : Hid (Vls wr (fun g => G g ∨ w2.heap.size ≤ g) (d - 1) es xs) := HV.out.mono (fun g _ hf => hf.1)
      have HFm : Hid (∀ g, G g ∨ w2.heap.size ≤ g → g ≠ wq.heap.size ∧ g ≠ w0.heap.size) := fun g hg => by
        have hne := HNe.out
        rcases hg with h | h
        · have := (HG.out g h).2; omega
        · omega
      have HRd : Hid (RdE wr (fun g => G g ∨ w2.heap.size ≤ g) ra i rc es) := OwnE.rdA HO.out (fun g hg => .inr (OwnR.lt HO.out hg).1)
      have HLe : Hid (es.length = i ∧ xs.length = i) := ⟨OwnE.len HO.out, by rw [← HVe.out.len]; exact OwnE.len HO.out⟩
      have HFin : Hid (∀ (wx : World) (ra' : Option Addr) (m' rc' : Nat) (es' : List El) (xs' : List RT), m' = i → BR wx wq.heap.size k s n ra' m' rc' → BR wx w0.heap.size 0 ⟨#[]⟩ 0 none 0 0 → Below w.heap.size w wx → OwnE wx w2.heap.size ra' m' rc' es' → Vls wx (fun g => G g ∨ w2.heap.size ≤ g) (d - 1) es' xs' → can (.mk k s n xs') = srt (.mk k s n l) → ∀ w9, w9 = (((wx.setCell ⟨w0.heap.size, 0, none⟩ (.int .i64 k)).setCell ⟨w0.heap.size, 1, none⟩ (.string s)).setCell ⟨w0.heap.size, 2, none⟩ (.int .i64 n)).setCell ⟨w0.heap.size, 3, none⟩ (.slice ra' m' rc') → Hid (w9.heap[w0.heap.size]? = some (.cells #[.int .i64 k, .string s, .int .i64 n, .slice ra' m' rc'] 24 (0, 0))) ∧ Hid (RetS w F d (.mk k s n l) (.returned (.agg #[.int .i64 k, .string s, .int .i64 n, .slice ra' m' rc'])) w9)) := by
        intro wx ra' m' rc' es' xs' hm' hR hZ hBx hO hV hcan w9 h9
        have hne := HNe.out
        have hZ9 := hZ.put k s n ra' m' rc'
        rw [← h9] at hZ9
        have hs9 : Stay wx w9 [w0.heap.size] := by rw [h9]; exact Stay.set4
        have hO9 : OwnE w9 w2.heap.size ra' m' rc' es' := OwnR.kept hO (fun g hg => hs9.block _ (OwnR.lt hO hg).2.1 (by have := (OwnR.lt hO hg).1; simp; omega))
        have hV9 := hV.keep (w' := w9) (fun g hl hf => hs9.block g hl (by have := (HFm.out g hf).2; simpa using this))
        refine ⟨hZ9.blk, hBx.trans (hs9.below (fun g hg => by simp at hg; omega) hBx.size), ⟨k, s, n, ra', m', rc'⟩, .mk k s n xs', rfl, ⟨rfl, rfl, rfl, ?_⟩, hcan⟩
        refine Hd.ofd (OwnE.rdA hO9 (fun g hg => .inr (by have := (OwnR.lt hO hg).1; omega))) (show m' ≤ 12 by omega) (hV9.mono (fun g _ hf => hf.imp (HG.out g) (fun h => by omega))) (fun h0 => ?_)
        have h1 := HD0.out h0
        have h2 := hV.len
        rw [OwnE.len hO, hm', h1] at h2
        exact List.length_eq_zero_iff.1 h2.symm
      have t3 := HR.out.c3
      have tf3 := HR.out.fz 3
      have a0 := HA.out.c0
      have aq3 := HA.out.c3
      by_cases hk9 : k = 9
      · subst hk9
        have HRi := rise_any (d - 1) (fun g => G g ∨ w2.heap.size ≤ g) ra i rc es xs wr HRd.out HVe.out hm12
        go_wp2_with fail
        refine HRi.mono ?_
        rintro e wx ⟨hbx, ra', rc', es', xs', rfl, hO', hV', hp, hs⟩
        have hBx := (step_below HB hbx).out
        have hR := HR.out.keep hbx
        have hZ := HZ.out.keep hbx
        obtain ⟨wv, hwv⟩ : ∃ wv, wx.setCell ⟨wq.heap.size, 3, none⟩ (.slice ra' i rc') = wv := ⟨_, rfl⟩
        have hsv : Stay wx wv [wq.heap.size] := by rw [← hwv]; exact Stay.set
        have hne := HNe.out
        have hS := HS.out
        have hRv : BR wv wq.heap.size 9 s n ra' i rc' := by rw [← hwv]; exact hR.put3 _ _ _
        have hZv : BR wv w0.heap.size 0 ⟨#[]⟩ 0 none 0 0 := hZ.stay hsv (by simp; omega)
        have hE := HFin.out wv ra' i rc' es' xs' rfl hRv hZv (hBx.trans (hsv.below (fun g hg => by simp at hg; omega) hBx.size)) (OwnR.low (OwnR.kept hO' (fun g hg => hsv.block g (OwnR.lt hO' hg).2.1 (by have := (OwnR.lt hO' hg).1; simp; omega))) hS) ((hV'.mono (fun g _ hf => hf.1)).keep (fun g hl hf => hsv.block g hl (by have := (HFm.out g hf).1; simpa using this))) (can_set HXe.out hp hs)
        obtain ⟨HE1, HE2⟩ := hE _ rfl
        have v3 := hR.c3
        have vf := hR.fz 3
        have HRv : Hid _ := hRv
        have HZv : Hid _ := hZv
        clear hE hRv hZv hR hZ hsv hBx hO' hV' hp hs HFin HRi hbx hne hS
        go_upto_region 22 with fail
        try rw [hwv]
        clear hwv v3 vf
        have v0 := HRv.out.c0
        have v1 := HRv.out.c1
        have v2 := HRv.out.c2
        have v3 := HRv.out.c3
        have x0 := HZv.out.c0
        have x1 := HZv.out.c1
        have x2 := HZv.out.c2
        have x3 := HZv.out.c3
        have y0 := HZv.out.fz 0
        have y1 := HZv.out.fz 1
        have y2 := HZv.out.fz 2
        have y3 := HZv.out.fz 3
        go_wp2
        exact ret_R rfl rfl HE1.out HE2.out
      · by_cases hk8 : k = 8
        · subst hk8
          obtain ⟨mh, hh⟩ : ∃ mh, i / 2 = mh := ⟨_, rfl⟩
          obtain ⟨n8, hn8⟩ : ∃ n8, 2 * mh = n8 := ⟨_, rfl⟩
          obtain ⟨lm, hlm⟩ : ∃ lm, i - n8 = lm := ⟨_, rfl⟩
          have hq : (i : Int).tdiv 2 = (mh : Int) := by rw [Int.tdiv_eq_ediv_of_nonneg (by omega)]; omega
          have hq2 : IntKind.i64.wrap (mh : Int) = (mh : Int) := by rw [IntKind.wrap_i64]; omega
          have hq3 : IntKind.i64.wrap ((mh : Int) * 2) = (n8 : Int) := by rw [IntKind.wrap_i64]; omega
          obtain ⟨la, lc, hsl, hlst⟩ := HRd.out.slice_l n8 (by omega)
          rw [hlm] at hsl hlst
          obtain ⟨qa, qc, hsh, hqd⟩ := HRd.out.slice_h n8 (by omega)
          have HLst : Hid _ := hlst
          have HPr := pairs_any (d - 1) (fun g => G g ∨ w2.heap.size ≤ g) qa n8 mh qc (es.take n8) (xs.take n8) wr hqd (HVe.out.take n8) (by omega) (by omega)
          have HAr : Hid (i / 2 = mh ∧ 2 * mh = n8 ∧ i - n8 = lm ∧ mh ≤ 6) := ⟨hh, hn8, hlm, by omega⟩
          clear hlst hqd hh hn8 hlm
          go_wp2_with fail
          refine HPr.mono ?_
          rintro e w3 ⟨hb3, a3, c3, ps, rfl, hO3, hV3⟩
          have HB3 := step_below HB hb3
          have Hb3 : Hid (Below wr.heap.size wr w3) := hb3
          have hRd3 : RdE w3 (fun g => G g ∨ w2.heap.size ≤ g) a3 mh c3 ps := OwnE.rdA hO3 (fun g hg => .inr (Nat.le_trans HS.out (OwnR.lt hO3 hg).1))
          have HRi := rise_any (d - 1 + 1) (fun g => G g ∨ w2.heap.size ≤ g) a3 mh c3 ps ((prs (xs.take n8)).map pr) w3 hRd3 (hV3.mono (fun g _ hf => hf.1)) (by have := HAr.out.2.2.2; omega)
          clear hb3 hO3 hV3 hRd3 HPr hsl hsh hq hq2 hq3
          go_wp2_with fail
          refine HRi.mono ?_
          rintro e w4 ⟨hb4, a4, c4, ps4, ts4, rfl, hO4, hV4, hp4, hs4⟩
          obtain ⟨qs, rfl, hpq⟩ := pr_back hp4
          rw [← HAr.out.2.1, prs_take xs mh (by rw [HLe.out.2]; exact HAr.out.1)] at hpq
          have HCan : Hid (can (.mk 8 s n (unp qs ++ odd xs)) = srt (.mk 8 s n l)) := can_map HXe.out hpq hs4
          have HQl : Hid (qs.length = mh) := by show _ = _; rw [hpq.length_eq, prs_len, HLe.out.2]; exact HAr.out.1
          have hne := HNe.out
          have hS := HS.out
          have hb3s := Hb3.out.size
          have hR4 : BR w4 wq.heap.size 8 s n ra i rc := (HR.out.keep Hb3.out).keep hb4
          have hZ4 := (HZ.out.keep Hb3.out).keep hb4
          have HB4 := step_below HB3 hb4
          obtain ⟨w5, hw5⟩ : ∃ w5, w4.setCell ⟨wq.heap.size, 3, none⟩ (.slice none 0 0) = w5 := ⟨_, rfl⟩
          have hs5 : Stay w4 w5 [wq.heap.size] := by rw [← hw5]; exact Stay.set
          have HR5 : Hid (BR w5 wq.heap.size 8 s n none 0 0) := by rw [← hw5]; exact hR4.put3 _ _ _
          have HZ5 : Hid (BR w5 w0.heap.size 0 ⟨#[]⟩ 0 none 0 0) := hZ4.stay hs5 (by simp; omega)
          have HO5 : Hid (OwnE w5 w3.heap.size a4 mh c4 ps4) := OwnR.kept hO4 (fun g hg => hs5.block g (OwnR.lt hO4 hg).2.1 (by have := (OwnR.lt hO4 hg).1; simp; omega))
          have hFm5 : ∀ g, g < w4.heap.size → G g ∨ w2.heap.size ≤ g → w5.heap[g]? = w4.heap[g]? := fun g hl hf => hs5.block g hl (by have := (HFm.out g hf).1; simpa using this)
          have HV5 : Hid (Vls w5 (fun g => G g ∨ w2.heap.size ≤ g) (d - 1 + 1) ps4 (qs.map pr)) := (hV4.mono (fun g _ hf => hf.1)).keep hFm5
          have HLs5 : Hid (RdE w5 (fun g => G g ∨ w2.heap.size ≤ g) la lm lc (es.drop n8)) := ((HLst.out.keep (fun g hg _ => Hb3.out.block g hg)).keep (fun g hg _ => hb4.block g hg)).keep hFm5
          have HVl5 : Hid (Vls w5 (fun g => G g ∨ w2.heap.size ≤ g) (d - 1) (es.drop n8) (xs.drop n8)) := (((HVe.out.drop n8).kp Hb3.out).kp hb4).keep hFm5
          have HB5 : Hid (Below w.heap.size w w5) := HB4.out.trans (hs5.below (fun g hg => by simp at hg; omega) HB4.out.size)
          have HSz : Hid (w3.heap.size ≤ w5.heap.size ∧ w2.heap.size ≤ w5.heap.size ∧ w2.heap.size ≤ w3.heap.size) := ⟨Nat.le_trans hb4.size hs5.size, Nat.le_trans (Nat.le_trans hS hb3s) (Nat.le_trans hb4.size hs5.size), Nat.le_trans hS hb3s⟩
          have v3 := hR4.c3
          have vf := hR4.fz 3
          clear hb4 hO4 hV4 hp4 hs4 hpq hR4 hZ4 hs5 hFm5 HRi HLst HB4 HB3 t3 tf3 a0 aq3 hne hS hb3s
          go_upto_region 17 with fail
          try rw [hw5]
          clear hw5 v3 vf HR HO HV HX HA HZ HB HVe HRd Hb3 HS
          obtain ⟨wb, hwb⟩ : ∃ wb, wb = wr := ⟨_, rfl⟩
          subst hwb
          obtain ⟨gq, hgq⟩ : ∃ gq, gq = gk := ⟨_, rfl⟩
          subst hgq
          go_wp2
          go_loopg [11] mh (fun gk iv wr => ∃ (j j2 : Nat) (oa : Option Addr) (oc : Nat) (fs : List El), j + gk = mh ∧ j2 = 2 * j ∧ iv = .int .i64 j ∧ Hid (BR wr wq.heap.size 8 s n oa j2 oc) ∧ Hid (OwnE wr w5.heap.size oa j2 oc fs) ∧ Hid (Vls w5 (fun g => G g ∨ w2.heap.size ≤ g) (d - 1) fs (unp (qs.take j))) ∧ Hid (Stay w5 wr [wq.heap.size]))
          case atStart => exact ⟨0, 0, none, 0, [], by omega, by omega, rfl, HR5, OwnR.nil _ _ _ _, Vls.nil _ _ _, Stay.of_below (Below.refl _ _) _⟩
          case round =>
            obtain ⟨j, j2, oa, oc, fs, hj, hj2, rfl, HRo, HOo, HVo, HSo⟩ := hrel
            have HJ2 : Hid (j2 = 2 * j) := hj2
            clear hj2
            have HSF : Hid (∀ g, g < w5.heap.size → G g ∨ w2.heap.size ≤ g → wr.heap[g]? = w5.heap[g]?) := fun g hl hf => HSo.out.block g hl (by have := (HFm.out g hf).1; simpa using this)
            have HRb : Hid (∀ g, oa.map (·.block) = some g → w5.heap.size ≤ g) := fun g hg => (OwnR.lt HOo.out hg).1
            have HD : Hid (Below wr.heap.size wr wr.drew) := below_drewN wr 1
            by_cases h8 : (j : Int) < mh
            · have hjm : j < mh := by omega
              have hpl : ps4.length = mh := OwnE.len HO5.out
              obtain ⟨P, tP, hP, htP, hvP⟩ := HV5.out.get (j := j) (by rw [hpl]; exact hjm)
              obtain ⟨⟨tx, ty⟩, hqj⟩ : ∃ q, qs[j]? = some q := ⟨_, List.getElem?_eq_getElem (by rw [HQl.out]; exact hjm)⟩
              have htP' : tP = pr (tx, ty) := by rw [List.getElem?_map, hqj] at htP; exact (Option.some.inj htP).symm
              subst htP'
              obtain ⟨es2, hrd2, -, hv2'⟩ := Hd.ex hvP.l
              have hv2 : Vls w5 (fun g => G g ∨ w2.heap.size ≤ g) (d - 1) es2 [tx, ty] := hv2'
              obtain ⟨Pk, Ps, Pn, Pa, Pm, Pc⟩ := P
              simp only at hrd2
              have hPm : Pm = 2 := by rw [← hrd2.len, hv2.len]; rfl
              subst hPm
              obtain ⟨gp, op, ePa, -⟩ := hrd2.cell 0 _ (List.getElem?_eq_getElem (show 0 < es2.length by rw [hv2.len]; exact Nat.zero_lt_two))
              subst ePa
              obtain ⟨g4, e4, -⟩ := OwnR.at HO5.out (by omega)
              subst e4
              have hOj : OwnE wr.drew w3.heap.size (some ⟨g4, 0, none⟩) mh c4 ps4 := OwnR.keep (OwnR.kept HO5.out (fun g hg => HSF.out g (OwnR.lt HO5.out hg).2.1 (.inr (Nat.le_trans HSz.out.2.2 (OwnR.lt HO5.out hg).1)))) HD.out
              obtain ⟨-, -, -, c3'⟩ := OwnE.cells hOj hP
              have hrd3 : RdE wr.drew (fun g => G g ∨ w2.heap.size ≤ g) (some ⟨gp, op, none⟩) 2 Pc es2 := (hrd2.keep HSF.out).keep (fun g hg _ => HD.out.block g hg)
              have HNw : Hid (∀ (q : Nat) (v : Value), (rcells es2)[q]? = some v → wr.drew.cell? ((⟨gp, op, none⟩ : Addr).add q) = some v) := fun q v hv => by rw [add_flat]; exact RdE.flat hrd3 q v hv
              have HEl : Hid ((rcells es2).length = 2 * 4) := by show _ = _; rw [rcells_len, hv2.len]; rfl
              have r3 := (HRo.out.keep HD.out).c3
              have HOd : Hid (OwnE wr.drew w5.heap.size oa j2 oc fs) := OwnR.keep HOo.out HD.out
              have HSd : Hid (w5.heap.size ≤ wr.drew.heap.size) := Nat.le_trans HSo.out.size HD.out.size
              have HVn : Hid (Vls w5 (fun g => G g ∨ w2.heap.size ≤ g) (d - 1) (fs ++ es2) (unp (qs.take (j + 1)))) := by
                rw [unp_take qs j (tx, ty) hqj]
                exact HVo.out.append hv2
              have hA := HAr.out
              have hj12 : j2 ≤ 12 := by have := HJ2.out; omega
              have hj7 : j ≤ 7 := by omega
              clear hrd2 hrd3 hv2 hv2' hvP hP htP hqj hOj hpl hA
              simp only at c3'
              go_upto_region 20 with fail
              go_region_law (refine step_append_r rfl (.tmp 80) (.tmp 85) rfl eltR w5.heap.size (by first | rfl | (simp [Act.eval] <;> rfl)) HOd.out (rcells es2) (by first | rfl | (simp [Act.eval] <;> rfl)) HEl.out HNw.out (rcells_one _) (by decide) (by omega) (by unfold maxLen; omega) HSd.out ?_; intro a8 n9 c8 w8 hn9 HO8 HG8 HGo8; have HR8 : Hid (BR w8 wq.heap.size 8 s n oa j2 oc) := (HRo.out.keep HD.out).kept (HG8.out.block _ (HRo.out.keep HD.out).lt (fun e => by have h1 := HRb.out _ e.symm; have h2 := HNe.out; have h3 := HSz.out; omega)); have u3 := HR8.out.c3; have uf := HR8.out.fz 3)
              all_goals
                have hne := HNe.out
                have hsz := HSz.out
                have HRn : Hid (BR (w8.setCell ⟨wq.heap.size, 3, none⟩ (.slice a8 (j2 + 2) c8)) wq.heap.size 8 s n a8 (j2 + 2) c8) := HR8.out.put3 _ _ _
                have HOn : Hid (OwnE (w8.setCell ⟨wq.heap.size, 3, none⟩ (.slice a8 (j2 + 2) c8)) w5.heap.size a8 (j2 + 2) c8 (fs ++ es2)) := by
                  have h1 := HO8.out
                  try rw [hn9] at h1
                  rw [← rcells_append] at h1
                  exact OwnR.kept h1 (fun g hg => (Stay.set (q := wq.heap.size)).block g (OwnR.lt h1 hg).2.1 (by have := (OwnR.lt h1 hg).1; simp; omega))
                have HSn : Hid (Stay w5 (w8.setCell ⟨wq.heap.size, 3, none⟩ (.slice a8 (j2 + 2) c8)) [wq.heap.size]) := ((HSo.out.tb (HD.out.mono HSo.out.size)).tb (OwnR.below HOd.out HG8.out HSd.out)).trans Stay.set (fun _ h => .inl h)
                clear HRo HOo HVo HSo HR8 HO8 HG8 HGo8 HNw r3 c3' u3 uf HOd HSd HSF HRb HD
                go_wp2
                go_roundg (gk - 1)
                case measure => omega
                case rel => exact ⟨j + 1, j2 + 2, a8, c8, _, by omega, by have := HJ2.out; omega, by go_num, HRn, HOn, HVn, HSn⟩
            · obtain rfl : j = mh := by omega
              have hA := HAr.out
              obtain rfl : j2 = n8 := by have := HJ2.out; omega
              have HVf : Hid (Vls w5 (fun g => G g ∨ w2.heap.size ≤ g) (d - 1) (fs ++ es.drop j2) (unp qs ++ odd xs)) := by
                have h1 := HVo.out
                rw [List.take_of_length_le (by rw [HQl.out]; omega)] at h1
                rw [odd_drop, HLe.out.2, hA.1, hA.2.1]
                exact h1.append HVl5.out
              have HLw : Hid (RdE wr (fun g => G g ∨ w2.heap.size ≤ g) la lm lc (es.drop j2)) := HLs5.out.keep HSF.out
              have HZw : Hid (BR wr w0.heap.size 0 ⟨#[]⟩ 0 none 0 0) := HZ5.out.stay HSo.out (by have := HNe.out; simp; omega)
              have HBw : Hid (Below w.heap.size w wr) := HB5.out.trans (HSo.out.below (fun g hg => by have := HNe.out; simp at hg; omega) HB5.out.size)
              have HVw : Hid (Vls wr (fun g => G g ∨ w2.heap.size ≤ g) (d - 1) (fs ++ es.drop j2) (unp qs ++ odd xs)) := HVf.out.keep HSF.out
              have u3 := HRo.out.c3
              have uf := HRo.out.fz 3
              have hne := HNe.out
              have hsz := HSz.out
              have HS5 : Hid (w5.heap.size ≤ wr.heap.size) := HSo.out.size
              have hj12 : j2 + lm ≤ 12 := by omega
              cases la with
              | none =>
                have hc0 := HLw.out.nul rfl
                have hf := HLw.out.fit
                have hl0 : lm = 0 := by omega
                have hdr : es.drop j2 = [] := List.length_eq_zero_iff.1 (by have := HLw.out.len; omega)
                subst hc0 hl0
                obtain ⟨wv, hwv⟩ : ∃ wv, wr.setCell ⟨wq.heap.size, 3, none⟩ (.slice oa j2 oc) = wv := ⟨_, rfl⟩
                have hsv : Stay wr wv [wq.heap.size] := by rw [← hwv]; exact Stay.set
                have hRv : BR wv wq.heap.size 8 s n oa j2 oc := by rw [← hwv]; exact HRo.out.put3 _ _ _
                have hZv : BR wv w0.heap.size 0 ⟨#[]⟩ 0 none 0 0 := HZw.out.stay hsv (by simp; omega)
                have hVv := HVw.out.keep (w' := wv) (fun g hl hf => hsv.block g hl (by have := (HFm.out g hf).1; simpa using this))
                rw [hdr, List.append_nil] at hVv
                obtain ⟨HE1, HE2⟩ := HFin.out wv oa j2 oc fs (unp qs ++ odd xs) (by omega) hRv hZv (HBw.out.trans (hsv.below (fun g hg => by simp at hg; omega) HBw.out.size)) (OwnR.low (OwnR.kept HOo.out (fun g hg => hsv.block g (OwnR.lt HOo.out hg).2.1 (by have := (OwnR.lt HOo.out hg).1; simp; omega))) hsz.2.1) hVv HCan.out _ rfl
                have HRv : Hid _ := hRv
                have HZv : Hid _ := hZv
                clear hRv hZv hsv hVv HFin hA hdr hf hj12 hne hsz
                have v0 := HRv.out.c0
                have v1 := HRv.out.c1
                have v2 := HRv.out.c2
                have v3 := HRv.out.c3
                have x0 := HZv.out.c0
                have x1 := HZv.out.c1
                have x2 := HZv.out.c2
                have x3 := HZv.out.c3
                have y0 := HZv.out.fz 0
                have y1 := HZv.out.fz 1
                have y2 := HZv.out.fz 2
                have y3 := HZv.out.fz 3
                go_wp2_with (at_builtin; refine append_0 rfl _ _ rfl w5.heap.size rfl HOo.out rfl ?_)
                exact ret_R rfl rfl HE1.out HE2.out
              | some ad =>
                have HNl : Hid (∀ q u, (rcells (es.drop j2))[q]? = some u → wr.cell? (ad.add q) = some u) := fun q u hu => by
                  have hq4 : q < (es.drop j2).length * 4 := by rw [← rcells_len]; exact (List.getElem?_eq_some_iff.1 hu).1
                  have h0 : 0 < (es.drop j2).length := by omega
                  obtain ⟨g, o, e, -, -⟩ := HLw.out.cell 0 _ (List.getElem?_eq_getElem h0)
                  cases e
                  rw [add_flat]
                  exact RdE.flat HLw.out q u hu
                have HLl : Hid ((rcells (es.drop j2)).length = lm * 4) := by show _ = _; rw [rcells_len, HLw.out.len]
                clear hA
                go_wp2_with (
                    at_builtin
                    refine append_e rfl _ _ rfl eltR w5.heap.size rfl HOo.out (rcells (es.drop j2)) rfl HLl.out HNl.out (rcells_one _) (by omega) (by unfold maxLen; omega) HS5.out ?_
                    intro a9 n9 c9 wx hn9 HO9 HG9 HGo9
                    have hbx : Below w5.heap.size wr wx := OwnR.below HOo.out HG9.out HS5.out
                    have hO9 : OwnE wx w5.heap.size a9 n9 c9 (fs ++ es.drop j2) := by
                      have h1 := HO9.out
                      rw [← rcells_append] at h1
                      exact h1
                    have hR9 : BR wx wq.heap.size 8 s n oa j2 oc := HRo.out.kept (hbx.block _ (by omega))
                    have hZ9 : BR wx w0.heap.size 0 ⟨#[]⟩ 0 none 0 0 := HZw.out.kept (hbx.block _ (by omega))
                    have hV9 : Vls wx (fun g => G g ∨ w2.heap.size ≤ g) (d - 1) (fs ++ es.drop j2) (unp qs ++ odd xs) := (HVf.out.mono (G := fun g => (G g ∨ w2.heap.size ≤ g) ∧ g < w5.heap.size) (fun g hl hf => ⟨hf, hl⟩)).keep (w' := wx) (fun g hl hf => (hbx.block g hf.2).trans (HSF.out g hl hf.1)) |>.mono (fun g _ hf => hf.1)
                    have hB9 : Below w.heap.size w wx := HBw.out.trans (hbx.mono (by omega))
                    obtain ⟨wv, hwv⟩ : ∃ wv, wx.setCell ⟨wq.heap.size, 3, none⟩ (.slice a9 n9 c9) = wv := ⟨_, rfl⟩
                    have hsv : Stay wx wv [wq.heap.size] := by rw [← hwv]; exact Stay.set
                    have hRv : BR wv wq.heap.size 8 s n a9 n9 c9 := by rw [← hwv]; exact hR9.put3 _ _ _
                    have hZv : BR wv w0.heap.size 0 ⟨#[]⟩ 0 none 0 0 := hZ9.stay hsv (by simp; omega)
                    have hVv := hV9.keep (w' := wv) (fun g hl hf => hsv.block g hl (by have := (HFm.out g hf).1; simpa using this))
                    obtain ⟨HE1, HE2⟩ := HFin.out wv a9 n9 c9 (fs ++ es.drop j2) (unp qs ++ odd xs) (by have := HAr.out; omega) hRv hZv (hB9.trans (hsv.below (fun g hg => by simp at hg; omega) hB9.size)) (OwnR.low (OwnR.kept hO9 (fun g hg => hsv.block g (OwnR.lt hO9 hg).2.1 (by have := (OwnR.lt hO9 hg).1; simp; omega))) hsz.2.1) hVv HCan.out _ rfl
                    have HRv : Hid _ := hRv
                    have HZv : Hid _ := hZv
                    have t3 := hR9.c3
                    have tf := hR9.fz 3
                    clear hRv hZv hsv hVv HFin hj12 hne hsz hbx hO9 hR9 hZ9 hV9 hB9 HO9 HG9 HGo9 u3 uf hn9
                    have v0 := HRv.out.c0
                    have v1 := HRv.out.c1
                    have v2 := HRv.out.c2
                    have v3 := HRv.out.c3
                    have x0 := HZv.out.c0
                    have x1 := HZv.out.c1
                    have x2 := HZv.out.c2
                    have x3 := HZv.out.c3
                    have y0 := HZv.out.fz 0
                    have y1 := HZv.out.fz 1
                    have y2 := HZv.out.fz 2
                    have y3 := HZv.out.fz 3)
                exact ret_R rfl rfl HE1.out HE2.out
        · obtain ⟨HE1, HE2⟩ := HFin.out wr ra i rc es xs rfl HR.out HZ.out HB.out HO.out HVe.out (can_row hk9 hk8 HXe.out) _ rfl
          have v0 := HR.out.c0
          have v1 := HR.out.c1
          have v2 := HR.out.c2
          have x0 := HZ.out.c0
          have x1 := HZ.out.c1
          have x2 := HZ.out.c2
          have x3 := HZ.out.c3
          have y0 := HZ.out.fz 0
          have y1 := HZ.out.fz 1
          have y2 := HZ.out.fz 2
          have y3 := HZ.out.fz 3
          clear HFin
          go_wp2
          exact ret_R rfl rfl HE1.out HE2.out
theorem rSorted_all (d : Nat) : SrsC d := by
  induction d with
  | zero => exact rSorted_step 0 (fun _ h => by omega)
  | succ d ih => exact rSorted_step (d + 1) (fun d' h => by cases h; exact ih)
end Go.Proofs.YtiamgnfbgiognaaGreatDoor

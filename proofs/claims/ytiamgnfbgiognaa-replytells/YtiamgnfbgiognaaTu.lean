/-
  turned: the parts, one by one.
-/
import Derived.Test.YtiamgnfbgiognaaTr
import Derived.Deep.RegionLaw
namespace Go.Proofs.Ytiamgnfbgiognaa
open Go.RowKit Go.PlainAid

theorem step_call {w : World} {ops : Array Oper} {o : Oper} {ac : Act} {K : Act → World → Prop} {Q : Exit → Act → World → Prop} {E : Prop} (hgd : o.guard = none) {f : Nat} (hf : ∀ args wx, (callFunc f args).run Try.prog wx = .ok (.enter f args) wx) (x : Operand) {t : TypeId} (ho : o.op = .call { callee := .value (.func f), args := #[x], argTypes := #[t] }) {v : Value} (hx : ac.eval x = v) {R : Ending → World → Prop} (hc : Calls Try.prog f #[v] w R)
    (h : ∀ e w', R e w' → ∃ v', e = .returned v' ∧ K (ac.put o.dst v') w') : if Region.wanted o (yielded ops ac.tmps) = true then Oper.wp Try.prog o ac w K Q else E := by
  have hw : Region.wanted o (yielded ops ac.tmps) = true := by simp [Region.wanted, hgd]
  have hv : ac.eval (.func f) = .func (.func f) #[] #[] := rfl
  rw [if_pos hw]
  unfold Oper.wp
  simp [execOp, ho, resolve, hx, hv, Deferred.ofValue, invoke, hf]
  rw [Oper.upon_enter]
  refine hc.mono ?_
  rintro e w' hR
  obtain ⟨v', rfl, hK⟩ := h e w' hR
  exact hK
theorem enter_turned (args : Array Value) (wx : World) : (callFunc 17 args).run Try.prog wx = .ok (.enter 17 args) wx := by
  go_simp
def TrnC (d : Nat) : Prop := ∀ (e : El) (t : RT) (w : World), VL w d e t → Calls Try.prog 17 #[e.v] w (RetR w d (trn t))
set_option maxRecDepth 100000 in
set_option maxHeartbeats 4000000 in
theorem turned_step (d : Nat) (ih : ∀ d', d = d' + 1 → TrnC d') : TrnC d := by
  intro e t w h
  have hL := h.l
  obtain ⟨k, s, n, a, m, c⟩ := e
  obtain ⟨tk, ts, tn, l⟩ := t
  have e1 : k = tk := h.k
  have e2 : s = ts := h.s
  have e3 : n = tn := h.n
  subst e1 e2 e3
  have hL : Hd w (fun g => g < w.heap.size) d a m c l := hL
  have HL : Hid _ := hL
  have HN : Hid (l.length = m ∧ m ≤ 12) := ⟨hL.len.1, hL.len.2⟩
  have HD0 : Hid (d = 0 → m = 0) := fun h0 => by
    subst h0
    have := hL.1
    have h2 := hL.len.1
    rw [this] at h2
    simpa using h2.symm
  have hm12 : m ≤ 12 := hL.len.2
  have ht : trn (.mk k s n l) = .mk k s n (revd k (l.map trn)) := by rw [trn, trnL_eq]
  rw [ht]
  clear h hL ht
  simp only [El.v]
  obtain ⟨w0, hw0⟩ : ∃ w0, w.alloc (.cells #[.int .i64 k, .string s, .int .i64 n, .slice a m c] 25) = w0 := ⟨_, rfl⟩
  obtain ⟨w1, hw1⟩ : ∃ w1, w0.alloc (.cells #[.int .i64 0, .string ⟨#[]⟩, .int .i64 0, .slice none 0 0] 25) = w1 := ⟨_, rfl⟩
  have hb01 : Below w.heap.size w w1 := by rw [← hw1, ← hw0]; exact below2 w _ _
  have hA1 : BR w1 w.heap.size k s n a m c := by
    rw [← hw1, ← hw0]; exact (BR.new w k s n a m c).keep (alloc_below _ _)
  have hZ1 : BR w1 w0.heap.size 0 ⟨#[]⟩ 0 none 0 0 := by rw [← hw1]; exact BR.new w0 _ _ _ _ _ _
  have HB01 : Hid _ := hb01
  have HA1 : Hid _ := hA1
  have HZ1 : Hid _ := hZ1
  have HN01 : Hid (w.heap.size < w0.heap.size) := by rw [← hw0]; exact alloc_lt w _ _
  have p0 := hA1.c0
  have p1 := hA1.c1
  have p2 := hA1.c2
  have p3 := hA1.c3
  clear hb01 hA1 hZ1
  go_enter Try.func17, Try.ntmps17
  go_upto_region 3 with fail
  obtain ⟨w2, hw2⟩ : ∃ w2, w1.alloc (.cells #[.int .i64 k, .string s, .int .i64 n, .slice none 0 0] 25) = w2 := ⟨_, rfl⟩
  rw [hw2]
  have hb2 : Below w1.heap.size w1 w2 := by rw [← hw2]; exact alloc_below w1 _
  have HB2 : Hid (Below w.heap.size w w2) := step_below HB01 hb2
  have HA2 : Hid _ := HA1.out.keep hb2
  have HZ2 : Hid _ := HZ1.out.keep hb2
  have HO2 : Hid (BR w2 w1.heap.size k s n none 0 0) := by rw [← hw2]; exact BR.new w1 _ _ _ _ _ _
  have HNe : Hid (w.heap.size < w0.heap.size ∧ w0.heap.size < w1.heap.size ∧ w1.heap.size < w2.heap.size) := ⟨HN01.out, HZ1.out.lt, HO2.out.lt⟩
  have q0 := HA2.out.c0
  have q3 := HA2.out.c3
  clear hb2 hw2 hw1 hw0
  go_wp2
  go_loopg [4] m (fun gk iv wr => ∃ (i : Nat) (ra : Option Addr) (rc : Nat) (es : List El), i + gk = m ∧ iv = .int .i64 i ∧ Hid (BR wr w1.heap.size k s n ra i rc) ∧ Hid (OwnE wr w2.heap.size ra i rc es) ∧ Hid (Vls wr (fun g => w2.heap.size ≤ g ∧ some g ≠ ra.map (·.block)) (d - 1) es ((l.take i).map trn)) ∧ Hid (BR wr w.heap.size k s n a m c) ∧ Hid (BR wr w0.heap.size 0 ⟨#[]⟩ 0 none 0 0) ∧ Hid (Below w.heap.size w wr) ∧ Hid (w2.heap.size ≤ wr.heap.size))
  case atStart => exact ⟨0, none, 0, [], by omega, rfl, HO2, OwnR.nil _ _ _ _, Vls.nil _ _ _, HA2, HZ2, HB2, Nat.le_refl _⟩
  case round =>
    obtain ⟨i, ra, rc, es, hi, rfl, HR, HO, HV, HA, HZ, HB, HS⟩ := hrel
    clear q0 q3 p0 p1 p2 p3
    by_cases h8 : (i : Int) < m
    · obtain ⟨d', g1, o1, x1, t1, hd, rfl, hg1, ht1, hv1, cx0, cx1, cx2, cx3⟩ := (Hd.keep (fun g hg _ => HB.out.block g hg) d HL.out).get (j := i) (by omega)
      have HC : Calls Try.prog 17 #[x1.v] wr.drew (RetR wr.drew d' (trn t1)) := ih d' hd x1 t1 wr.drew (hv1.lo.kp (below_drewN wr 1))
      have HD : Hid (Below wr.heap.size wr wr.drew) := below_drewN wr 1
      have HTk : Hid ((l.take (i + 1)).map trn = (l.take i).map trn ++ [trn t1]) := by show _ = _; rw [List.take_add_one, ht1, List.map_append]; rfl
      have a3 := (HA.out.keep HD.out).c3
      have r3 := (HR.out.keep HD.out).c3
      have hl1 := World.block_lt_of_cell? wr _ cx0
      have dx0 := (HD.out.cell (p := ⟨g1, o1 + i * 4, none⟩) hl1).trans cx0
      have dx1 := (HD.out.cell (p := ⟨g1, o1 + i * 4 + 1, none⟩) hl1).trans cx1
      have dx2 := (HD.out.cell (p := ⟨g1, o1 + i * 4 + 2, none⟩) hl1).trans cx2
      have dx3 := (HD.out.cell (p := ⟨g1, o1 + i * 4 + 3, none⟩) hl1).trans cx3
      have s3 := HA.out.c3
      have hin : i < m := by omega
      have hi12 : i ≤ 12 := by omega
      have HRb : Hid (∀ g, ra.map (·.block) = some g → w2.heap.size ≤ g ∧ g < wr.heap.size) := fun g hg => ⟨(OwnR.lt HO.out hg).1, (OwnR.lt HO.out hg).2.1⟩
      have hd1 : d - 1 = d' := by omega
      rw [hd1] at HV
      obtain ⟨xk, xs, xn, xa, xm, xc⟩ := x1
      simp only at dx0 dx1 dx2 dx3
      simp only [El.v] at HC
      clear cx0 cx1 cx2 cx3 hv1 ht1 hg1
      go_upto_region 6 with fail
      go_region_law (first
          | (refine step_append_r rfl (.tmp 20) (.tmp 27) rfl eltR w2.heap.size (by first | rfl | (simp [Act.eval] <;> rfl)) HO6.out (rcells [⟨Xk, Xs, Xn, Xa, Xm, Xc⟩]) (by first | rfl | (simp [Act.eval] <;> rfl)) rfl HNw.out (rcells_one _) (by decide) (by omega) (by unfold maxLen; omega) HS6.out ?_; intro a8 n8 c8 w8 hn8 HO8 HG8 HGo8; have HR8 : Hid (BR w8 w1.heap.size k s n ra i rc) := HR6.out.kept (HG8.out.block _ HR6.out.lt (fun e => by have h1 := (HRb.out _ e.symm).1; have h2 := HNe.out; omega)); have v3 := HR8.out.c3; have vf := HR8.out.fz 3)
          | (refine step_call rfl enter_turned (.tmp 25) rfl (by simp [Act.eval] <;> rfl) HC ?_; rintro e w5 ⟨hb5, X, rfl, hvX⟩; (obtain ⟨Xk, Xs, Xn, Xa, Xm, Xc⟩ := X); refine ⟨_, rfl, ?_⟩; have hb5' : Below wr.heap.size wr w5 := HD.out.trans (hb5.mono HD.out.size); obtain ⟨w6, hw6⟩ : ∃ w6, w5.alloc (.cells #[.int .i64 Xk, .string Xs, .int .i64 Xn, .slice Xa Xm Xc] 25) = w6 := ⟨_, rfl⟩; have hb6 : Below w5.heap.size w5 w6 := (by rw [← hw6]; exact alloc_below w5 _); have hb56 : Below wr.heap.size wr w6 := hb5'.trans (hb6.mono hb5'.size); have hI : BR w6 w5.heap.size Xk Xs Xn Xa Xm Xc := (by rw [← hw6]; exact BR.new w5 _ _ _ _ _ _); have HI6 : Hid _ := hI; have HB56 : Hid _ := hb56; have HR6 : Hid _ := HR.out.keep hb56; have HO6 : Hid (OwnE w6 w2.heap.size ra i rc es) := OwnR.keep HO.out hb56; have HS6 : Hid (w2.heap.size ≤ w6.heap.size) := Nat.le_trans HS.out hb56.size; have HX6 : Hid (Vl w6 (fun g => wr.heap.size ≤ g) d' ⟨Xk, Xs, Xn, Xa, Xm, Xc⟩ (trn t1)) := (hvX.kp hb6).mono (fun g _ hg => Nat.le_trans HD.out.size hg); have HNw : Hid (∀ (j : Nat) (v : Value), (rcells [⟨Xk, Xs, Xn, Xa, Xm, Xc⟩])[j]? = some v → w6.cell? ((⟨w5.heap.size, 0, none⟩ : Addr).add j) = some v) := fun j v hv => new_row hI j v hv; have y3 := (HR.out.keep hb5').c3; have z3 := HR6.out.c3; (simp only [El.v]); clear hb5 hb5' hb6 hb56 hI hvX))
      all_goals
        have hne := HNe.out
        have HRn : Hid (BR (w8.setCell ⟨w1.heap.size, 3, none⟩ (.slice a8 (i + 1) c8)) w1.heap.size k s n a8 (i + 1) c8) := HR8.out.put3 _ _ _
        have HOn : Hid (OwnE (w8.setCell ⟨w1.heap.size, 3, none⟩ (.slice a8 (i + 1) c8)) w2.heap.size a8 (i + 1) c8 (es ++ [⟨Xk, Xs, Xn, Xa, Xm, Xc⟩])) := by
          have h1 := HO8.out
          try rw [hn8] at h1
          rw [← rcells_append] at h1
          exact OwnR.kept h1 (fun g hg => (Stay.set (q := w1.heap.size)).block g (OwnR.lt h1 hg).2.1 (by have := (OwnR.lt h1 hg).1; simp; omega))
        have HVn : Hid (Vls (w8.setCell ⟨w1.heap.size, 3, none⟩ (.slice a8 (i + 1) c8)) (fun g => w2.heap.size ≤ g ∧ some g ≠ a8.map (·.block)) (d - 1) (es ++ [⟨Xk, Xs, Xn, Xa, Xm, Xc⟩]) ((l.take (i + 1)).map trn)) := by
          rw [HTk.out, hd1]
          have h1 : Vl w6 (fun g => w2.heap.size ≤ g ∧ some g ≠ ra.map (·.block)) d' ⟨Xk, Xs, Xn, Xa, Xm, Xc⟩ (trn t1) := HX6.out.mono (fun g _ hg => ⟨Nat.le_trans HS.out hg, fun e => by have := (HRb.out g e.symm).2; omega⟩)
          have h2 := ((HV.out.kp HB56.out).append (Vls.one h1)).grown HG8.out HGo8.out
          exact h2.keep (fun g hl hf => (Stay.set (q := w1.heap.size)).block g hl (by simp; omega))
        have HAn : Hid (BR (w8.setCell ⟨w1.heap.size, 3, none⟩ (.slice a8 (i + 1) c8)) w.heap.size k s n (some ⟨g1, o1, none⟩) m c) := ((HA.out.keep HB56.out).kept (HG8.out.block _ (HA.out.keep HB56.out).lt (fun e => by have := (HRb.out _ e.symm).1; omega))).stay (Stay.set (q := w1.heap.size)) (by simp; omega)
        have HZn : Hid (BR (w8.setCell ⟨w1.heap.size, 3, none⟩ (.slice a8 (i + 1) c8)) w0.heap.size 0 ⟨#[]⟩ 0 none 0 0) := ((HZ.out.keep HB56.out).kept (HG8.out.block _ (HZ.out.keep HB56.out).lt (fun e => by have := (HRb.out _ e.symm).1; omega))).stay (Stay.set (q := w1.heap.size)) (by simp; omega)
        have HBn : Hid (Below w.heap.size w (w8.setCell ⟨w1.heap.size, 3, none⟩ (.slice a8 (i + 1) c8))) := by
          have h0 := step_below HB HB56.out
          have h1 := (OwnR.below HO6.out HG8.out HS6.out).mono (show w.heap.size ≤ w2.heap.size by omega)
          have h2 := h0.out.trans h1
          exact h2.trans ((Stay.set (q := w1.heap.size)).below (fun i hi => by simp at hi; omega) h2.size)
        have HSn : Hid (w2.heap.size ≤ ((w8.setCell ⟨w1.heap.size, 3, none⟩ (.slice a8 (i + 1) c8))).heap.size) := Nat.le_trans HS6.out (Nat.le_trans HG8.out.size (Stay.set (w := w8) (q := w1.heap.size)).size)
        clear HR HO HV HA HZ HB HS HR8 HO8 HG8 HGo8 HO6 HR6 HI6 HX6 HNw HC a3 r3 dx0 dx1 dx2 dx3 s3 y3 z3
        go_wp2
        go_roundg (gk - 1)
        case measure => omega
        case rel => exact ⟨i + 1, a8, c8, _, by omega, by go_num, HRn, HOn, HVn, HAn, HZn, HBn, HSn⟩
    · have him : i = m := by omega
      subst him
      have HVe : Hid (Vls wr (fun g => w2.heap.size ≤ g ∧ some g ≠ ra.map (·.block)) (d - 1) es (l.map trn)) := by
        have h1 := HV.out
        rw [List.take_of_length_le (by rw [HN.out.1]; omega)] at h1
        exact h1
      have HFin : Hid (∀ wx xs', Stay wr wx (ra.map (·.block)).toList → OwnE wx w2.heap.size ra i rc xs' → Vls wr (fun g => w2.heap.size ≤ g ∧ some g ≠ ra.map (·.block)) (d - 1) xs' (revd k (l.map trn)) → (BR wx w1.heap.size k s n ra i rc ∧ BR wx w0.heap.size 0 ⟨#[]⟩ 0 none 0 0) ∧ ∀ w9, w9 = (((wx.setCell ⟨w0.heap.size, 0, none⟩ (.int .i64 k)).setCell ⟨w0.heap.size, 1, none⟩ (.string s)).setCell ⟨w0.heap.size, 2, none⟩ (.int .i64 n)).setCell ⟨w0.heap.size, 3, none⟩ (.slice ra i rc) → Hid (w9.heap[w0.heap.size]? = some (.cells #[.int .i64 k, .string s, .int .i64 n, .slice ra i rc] 25 (0, 0))) ∧ Hid (RetR w d (.mk k s n (revd k (l.map trn))) (.returned (.agg #[.int .i64 k, .string s, .int .i64 n, .slice ra i rc])) w9)) := by
        intro wx xs' hs hO hV
        have hne := HNe.out
        have hrb : ∀ g, g ∈ (ra.map (·.block)).toList → w2.heap.size ≤ g := fun g hg => (OwnR.lt HO.out (k := g) (by simpa using hg)).1
        have hR := HR.out.stay hs (fun h => by have := hrb _ h; omega)
        have hZ := HZ.out.stay hs (fun h => by have := hrb _ h; omega)
        refine ⟨⟨hR, hZ⟩, fun w9 h9 => ?_⟩
        have hZ9 := hZ.put k s n ra i rc
        rw [← h9] at hZ9
        have hs9 : Stay wx w9 [w0.heap.size] := by rw [h9]; exact Stay.set4
        have hBx : Below w.heap.size w wx := HB.out.trans (hs.below (fun g hg => by have := hrb g hg; omega) HB.out.size)
        refine ⟨hZ9.blk, hBx.trans (hs9.below (fun g hg => by simp at hg; omega) hBx.size), ⟨k, s, n, ra, i, rc⟩, rfl, rfl, rfl, rfl, ?_⟩
        have hO9 : OwnE w9 w2.heap.size ra i rc xs' := OwnR.kept hO (fun g hg => hs9.block _ (OwnR.lt hO hg).2.1 (by have := (OwnR.lt hO hg).1; simp; omega))
        have hV9 := (hV.keep (w' := wx) (fun g hl hf => hs.block g hl (fun h => hf.2 (by simpa using (by simpa using h : ra.map (·.block) = some g).symm)))).keep (w' := w9) (fun g hl hf => hs9.block g hl (by simp; omega))
        refine Hd.ofd (OwnE.rdA hO9 (fun g hg => by have := (OwnR.lt hO hg).1; omega)) hm12 (hV9.mono (fun g _ hf => by omega)) (fun h0 => ?_)
        have h1 := HD0.out h0
        have h2 := hV.len
        rw [OwnE.len hO, h1] at h2
        exact List.length_eq_zero_iff.1 h2.symm
      have t3 := HR.out.c3
      have a0 := HA.out.c0
      have a3 := HA.out.c3
      by_cases hk9 : k = 9
      · subst hk9
        obtain ⟨mh, hmh⟩ : ∃ mh, i / 2 = mh := ⟨_, rfl⟩
        have hq : (i : Int).tdiv 2 = (mh : Int) := by rw [Int.tdiv_eq_ediv_of_nonneg (by omega)]; omega
        have hq2 : IntKind.i64.wrap (mh : Int) = (mh : Int) := by rw [IntKind.wrap_i64]; omega
        obtain ⟨g, hg⟩ : ∃ g, i = 0 ∨ ra = some ⟨g, 0, none⟩ := by
          by_cases h0 : i = 0
          · exact ⟨0, .inl h0⟩
          · obtain ⟨g, e, -⟩ := OwnR.at HO.out (by omega)
            exact ⟨g, .inr e⟩
        have HGg : Hid _ := hg
        have HLl : Hid (es.length = i ∧ (l.map trn).length = i) := ⟨OwnE.len HO.out, by rw [List.length_map, HN.out.1]⟩
        clear hg
        obtain ⟨wb, hwb⟩ : ∃ wb, wb = wr := ⟨_, rfl⟩
        subst hwb
        obtain ⟨gq, hgq⟩ : ∃ gq, gq = gk := ⟨_, rfl⟩
        subst hgq
        go_wp2
        go_loopg [6] mh (fun gk iv wr => ∃ (j : Nat) (es' : List El) (ts' : List RT), j + gk = mh ∧ iv = .int .i64 j ∧ Hid (OwnE wr w2.heap.size ra i rc es') ∧ Hid (Vls wb (fun g => w2.heap.size ≤ g ∧ some g ≠ ra.map (·.block)) (d - 1) es' ts') ∧ Hid (RevI es j es') ∧ Hid (RevI (l.map trn) j ts') ∧ Hid (Stay wb wr (ra.map (·.block)).toList))
        case atStart => exact ⟨0, es, l.map trn, by omega, rfl, HO, HVe, RevI.start _, RevI.start _, Stay.of_below (Below.refl _ _) _⟩
        case round =>
          obtain ⟨j, es', ts', hj, rfl, HO', HV', HRe, HRt, HSt⟩ := hrel
          clear t3 a0 a3
          have hrb : ∀ g, g ∈ (ra.map (·.block)).toList → w2.heap.size ≤ g := fun g hg => (OwnR.lt HO.out (k := g) (by simpa using hg)).1
          have hne := HNe.out
          have HRz : Hid (BR wr w1.heap.size 9 s n ra i rc) := HR.out.stay HSt.out (fun h => by have := hrb _ h; omega)
          clear hrb
          have u3 := HRz.out.c3
          by_cases h8 : (j : Int) < mh
          · have hra : ra = some ⟨g, 0, none⟩ := by
              rcases HGg.out with h | h
              · omega
              · exact h
            subst hra
            have hle := HRe.out.len
            have hlt := HRt.out.len
            obtain ⟨m1, hm1⟩ : ∃ m1, i - 1 = m1 := ⟨_, rfl⟩
            obtain ⟨qj, hqj⟩ : ∃ qj, i - 1 - j = qj := ⟨_, rfl⟩
            have hw1 : IntKind.i64.wrap ((i : Int) - 1) = (m1 : Int) := by rw [IntKind.wrap_i64]; omega
            have hw2 : IntKind.i64.wrap ((m1 : Int) - j) = (qj : Int) := by rw [IntKind.wrap_i64]; omega
            obtain ⟨X, tx, hX, htx, hvx⟩ := HV'.out.get (j := j) (by rw [hle, HLl.out.1]; omega)
            obtain ⟨Y, ty, hY, hty, hvy⟩ := HV'.out.get (j := qj) (by rw [hle, HLl.out.1]; omega)
            have HRe2 : Hid (RevI es (j + 1) ((es'.set j Y).set qj X)) := by
              have h1 := HRe.out.swap (x := X) (y := Y) (by rw [HLl.out.1]; omega) hX (by rw [HLl.out.1, hqj]; exact hY)
              rw [HLl.out.1, hqj] at h1
              exact h1
            have HRt2 : Hid (RevI (l.map trn) (j + 1) ((ts'.set j ty).set qj tx)) := by
              have h1 := HRt.out.swap (x := tx) (y := ty) (by rw [HLl.out.2]; omega) htx (by rw [HLl.out.2, hqj]; exact hty)
              rw [HLl.out.2, hqj] at h1
              exact h1
            have HV2 : Hid (Vls wb (fun g' => w2.heap.size ≤ g' ∧ some g' ≠ (some (⟨g, 0, none⟩ : Addr)).map (·.block)) (d - 1) ((es'.set j Y).set qj X) ((ts'.set j ty).set qj tx)) := (HV'.out.set j hvy).set qj hvx
            obtain ⟨a0', a1', a2', a3'⟩ := OwnE.cells HO'.out hX
            obtain ⟨b0', b1', b2', b3'⟩ := OwnE.cells HO'.out hY
            have hf := fun o => OwnR.fz HO'.out o
            have f0 := hf (j * 4)
            have f1 := hf (j * 4 + 1)
            have f2 := hf (j * 4 + 2)
            have f3 := hf (j * 4 + 3)
            have fy0 := hf (qj * 4)
            have fy1 := hf (qj * 4 + 1)
            have fy2 := hf (qj * 4 + 2)
            have fy3 := hf (qj * 4 + 3)
            have HO2 : Hid (OwnE ((((((((wr.setCell ⟨g, j * 4, none⟩ (.int .i64 Y.k)).setCell ⟨g, j * 4 + 1, none⟩ (.string Y.s)).setCell ⟨g, j * 4 + 2, none⟩ (.int .i64 Y.n)).setCell ⟨g, j * 4 + 3, none⟩ (.slice Y.a Y.m Y.c)).setCell ⟨g, qj * 4, none⟩ (.int .i64 X.k)).setCell ⟨g, qj * 4 + 1, none⟩ (.string X.s)).setCell ⟨g, qj * 4 + 2, none⟩ (.int .i64 X.n)).setCell ⟨g, qj * 4 + 3, none⟩ (.slice X.a X.m X.c)).drew w2.heap.size (some ⟨g, 0, none⟩) i rc ((es'.set j Y).set qj X)) := OwnR.keep (OwnE.set4 (OwnE.set4 HO'.out j Y) qj X) (below_drewN _ 1)
            have HS2 : Hid (Stay wb ((((((((wr.setCell ⟨g, j * 4, none⟩ (.int .i64 Y.k)).setCell ⟨g, j * 4 + 1, none⟩ (.string Y.s)).setCell ⟨g, j * 4 + 2, none⟩ (.int .i64 Y.n)).setCell ⟨g, j * 4 + 3, none⟩ (.slice Y.a Y.m Y.c)).setCell ⟨g, qj * 4, none⟩ (.int .i64 X.k)).setCell ⟨g, qj * 4 + 1, none⟩ (.string X.s)).setCell ⟨g, qj * 4 + 2, none⟩ (.int .i64 X.n)).setCell ⟨g, qj * 4 + 3, none⟩ (.slice X.a X.m X.c)).drew ((some (⟨g, 0, none⟩ : Addr)).map (·.block)).toList) := ((HSt.out.trans Stay.set4 (fun _ h => .inl (by simpa using h))).trans Stay.set4 (fun _ h => .inl (by simpa using h))).trans (Stay.of_below (below_drewN _ 1) []) (fun _ h => by cases h)
            have hk1 : (j : Int) < i := by omega
            have hk2 : (qj : Int) < i := by omega
            have hk3 : j < i := by omega
            have hk4 : qj < i := by omega
            have hj6 : j ≤ 6 := by omega
            have hngw : ¬ g = w1.heap.size := by have := (OwnR.lt HO.out (k := g) rfl).1; omega
            have hngw2 : ¬ w1.heap.size = g := by omega
            obtain ⟨Xk, Xs, Xn, Xa, Xm, Xc⟩ := X
            obtain ⟨Yk, Ys, Yn, Ya, Ym, Yc⟩ := Y
            simp only at a0' a1' a2' a3' b0' b1' b2' b3' HO2 HS2
            clear hf hX hY htx hty hvx hvy HRe HRt HSt HO' HV'
            go_upto_region 13 with fail
            go_region
            all_goals
              go_wp2
              go_roundg (gk - 1)
              case measure => omega
              case rel => exact ⟨j + 1, _, _, by omega, by go_num, HO2, HV2, HRe2, HRt2, HS2⟩
          · have hrev : ts' = (l.map trn).reverse := HRt.out.done (by rw [HLl.out.2]; omega) (by rw [HLl.out.2]; omega)
            obtain ⟨⟨hR, hZ⟩, hE⟩ := HFin.out wr es' HSt.out HO'.out (by unfold revd; rw [if_pos rfl, ← hrev]; exact HV'.out)
            clear HRe HRt hrev
            obtain ⟨HE1, HE2⟩ := hE _ rfl
            have v0 := hR.c0
            have v1 := hR.c1
            have v2 := hR.c2
            have v3 := hR.c3
            have x0 := hZ.c0
            have x1 := hZ.c1
            have x2 := hZ.c2
            have x3 := hZ.c3
            have y0 := hZ.fz 0
            have y1 := hZ.fz 1
            have y2 := hZ.fz 2
            have y3 := hZ.fz 3
            clear hR hZ hE HFin
            go_wp2
            exact ret_R rfl rfl HE1.out HE2.out
      · by_cases hk8 : k = 8
        · subst hk8
          obtain ⟨mh, hmh⟩ : ∃ mh, i / 2 = mh := ⟨_, rfl⟩
          obtain ⟨mq, hmq⟩ : ∃ mq, mh / 2 = mq := ⟨_, rfl⟩
          have hq : (i : Int).tdiv 2 = (mh : Int) := by rw [Int.tdiv_eq_ediv_of_nonneg (by omega)]; omega
          have hq2 : IntKind.i64.wrap (mh : Int) = (mh : Int) := by rw [IntKind.wrap_i64]; omega
          have hr : (mh : Int).tdiv 2 = (mq : Int) := by rw [Int.tdiv_eq_ediv_of_nonneg (by omega)]; omega
          have hr2 : IntKind.i64.wrap (mq : Int) = (mq : Int) := by rw [IntKind.wrap_i64]; omega
          obtain ⟨g, hg⟩ : ∃ g, i = 0 ∨ ra = some ⟨g, 0, none⟩ := by
            by_cases h0 : i = 0
            · exact ⟨0, .inl h0⟩
            · obtain ⟨g, e, -⟩ := OwnR.at HO.out (by omega)
              exact ⟨g, .inr e⟩
          have HGg : Hid _ := hg
          have HLl : Hid (es.length = i ∧ (l.map trn).length = i ∧ (prs es).length = mh ∧ (prs (l.map trn)).length = mh) := ⟨OwnE.len HO.out, by rw [List.length_map, HN.out.1], by rw [prs_len, OwnE.len HO.out, hmh], by rw [prs_len, List.length_map, HN.out.1, hmh]⟩
          have HOp : Hid (OwnE wr w2.heap.size ra i rc (unp (prs es) ++ odd es)) := by rw [unp_prs]; exact HO
          have HVp : Hid _ := HVe.out.prs
          clear hg
          obtain ⟨wb, hwb⟩ : ∃ wb, wb = wr := ⟨_, rfl⟩
          subst hwb
          obtain ⟨gq, hgq⟩ : ∃ gq, gq = gk := ⟨_, rfl⟩
          subst hgq
          go_wp2
          go_loopg [8] mq (fun gk iv wr => ∃ (j : Nat) (es' : List PE) (ts' : List (RT × RT)), j + gk = mq ∧ iv = .int .i64 j ∧ Hid (OwnE wr w2.heap.size ra i rc (unp es' ++ odd es)) ∧ Hid (Vps wb (fun g => w2.heap.size ≤ g ∧ some g ≠ ra.map (·.block)) (d - 1) es' ts') ∧ Hid (RevI (prs es) j es') ∧ Hid (RevI (prs (l.map trn)) j ts') ∧ Hid (Stay wb wr (ra.map (·.block)).toList))
          case atStart => exact ⟨0, _, _, by omega, rfl, HOp, HVp, RevI.start _, RevI.start _, Stay.of_below (Below.refl _ _) _⟩
          case round =>
            obtain ⟨j, es', ts', hj, rfl, HO', HV', HRe, HRt, HSt⟩ := hrel
            clear t3 a0 a3
            have HRw : Hid (∀ wx, Stay wb wx (ra.map (·.block)).toList → BR wx w1.heap.size 8 s n ra i rc) := fun wx hx => HR.out.stay hx (fun h => by have := (OwnR.lt HO.out (k := w1.heap.size) (by simpa using h)).1; have := HNe.out; omega)
            have u3 := (HRw.out wr HSt.out).c3
            by_cases h8 : (j : Int) < mq
            · have hra : ra = some ⟨g, 0, none⟩ := by
                rcases HGg.out with h | h
                · omega
                · exact h
              subst hra
              have hle := HRe.out.len
              have hlt := HRt.out.len
              obtain ⟨m1, hm1⟩ : ∃ m1, mh - 1 = m1 := ⟨_, rfl⟩
              obtain ⟨qj, hqj⟩ : ∃ qj, mh - 1 - j = qj := ⟨_, rfl⟩
              have hw1 : IntKind.i64.wrap ((mh : Int) - 1) = (m1 : Int) := by rw [IntKind.wrap_i64]; omega
              have hw2 : IntKind.i64.wrap ((m1 : Int) - j) = (qj : Int) := by rw [IntKind.wrap_i64]; omega
              obtain ⟨i2, hi2⟩ : ∃ i2, 2 * j = i2 := ⟨_, rfl⟩
              obtain ⟨k2, hk2⟩ : ∃ k2, 2 * qj = k2 := ⟨_, rfl⟩
              obtain ⟨i3, hi3⟩ : ∃ i3, i2 + 1 = i3 := ⟨_, rfl⟩
              obtain ⟨k3, hk3⟩ : ∃ k3, k2 + 1 = k3 := ⟨_, rfl⟩
              have hx1 : IntKind.i64.wrap (2 * (j : Int)) = (i2 : Int) := by rw [IntKind.wrap_i64]; omega
              have hx2 : IntKind.i64.wrap (2 * (qj : Int)) = (k2 : Int) := by rw [IntKind.wrap_i64]; omega
              have hx3 : IntKind.i64.wrap ((i2 : Int) + 1) = (i3 : Int) := by rw [IntKind.wrap_i64]; omega
              have hx4 : IntKind.i64.wrap ((k2 : Int) + 1) = (k3 : Int) := by rw [IntKind.wrap_i64]; omega
              obtain ⟨P, tp, hP, htp, hvp, -, -⟩ := HV'.out.at (g := g) (fun h => h.2 rfl) (w' := wb) (Stay.of_below (Below.refl _ _) _) (j := j) (by rw [hle, HLl.out.2.2.1]; omega)
              obtain ⟨Q, tq, hQ, htq, hvq, -, -⟩ := HV'.out.at (g := g) (fun h => h.2 rfl) (w' := wb) (Stay.of_below (Below.refl _ _) _) (j := qj) (by rw [hle, HLl.out.2.2.1]; omega)
              have HRe2 : Hid (RevI (prs es) (j + 1) ((es'.set j Q).set qj P)) := by
                have h1 := HRe.out.swap (x := P) (y := Q) (by rw [HLl.out.2.2.1]; omega) hP (by rw [HLl.out.2.2.1, hqj]; exact hQ)
                rw [HLl.out.2.2.1, hqj] at h1
                exact h1
              have HRt2 : Hid (RevI (prs (l.map trn)) (j + 1) ((ts'.set j tq).set qj tp)) := by
                have h1 := HRt.out.swap (x := tp) (y := tq) (by rw [HLl.out.2.2.2]; omega) htp (by rw [HLl.out.2.2.2, hqj]; exact htq)
                rw [HLl.out.2.2.2, hqj] at h1
                exact h1
              have HV2 : Hid (Vps wb (fun g' => w2.heap.size ≤ g' ∧ some g' ≠ (some (⟨g, 0, none⟩ : Addr)).map (·.block)) (d - 1) ((es'.set j Q).set qj P) ((ts'.set j tq).set qj tp)) := (HV'.out.set j hvq).set qj hvp
              obtain ⟨hp1, hp2⟩ := unp_get es' (odd es) j P hP
              obtain ⟨hq1', hq2'⟩ := unp_get es' (odd es) qj Q hQ
              rw [hi2] at hp1 hp2
              rw [hk2] at hq1' hq2'
              rw [hi3] at hp2
              rw [hk3] at hq2'
              obtain ⟨a0', a1', a2', a3'⟩ := OwnE.cells HO'.out hp1
              obtain ⟨b0', b1', b2', b3'⟩ := OwnE.cells HO'.out hq1'
              have hf := fun o => OwnR.fz HO'.out o
              have fa0 := hf (i2 * 4)
              have fa1 := hf (i2 * 4 + 1)
              have fa2 := hf (i2 * 4 + 2)
              have fa3 := hf (i2 * 4 + 3)
              have fya0 := hf (k2 * 4)
              have fya1 := hf (k2 * 4 + 1)
              have fya2 := hf (k2 * 4 + 2)
              have fya3 := hf (k2 * 4 + 3)
              have HOA : Hid (OwnE ((((((((wr.setCell ⟨g, i2 * 4, none⟩ (.int .i64 Q.1.k)).setCell ⟨g, i2 * 4 + 1, none⟩ (.string Q.1.s)).setCell ⟨g, i2 * 4 + 2, none⟩ (.int .i64 Q.1.n)).setCell ⟨g, i2 * 4 + 3, none⟩ (.slice Q.1.a Q.1.m Q.1.c)).setCell ⟨g, k2 * 4, none⟩ (.int .i64 P.1.k)).setCell ⟨g, k2 * 4 + 1, none⟩ (.string P.1.s)).setCell ⟨g, k2 * 4 + 2, none⟩ (.int .i64 P.1.n)).setCell ⟨g, k2 * 4 + 3, none⟩ (.slice P.1.a P.1.m P.1.c)).drew w2.heap.size (some ⟨g, 0, none⟩) i rc (((unp es' ++ odd es).set i2 Q.1).set k2 P.1)) := OwnR.keep (OwnE.set4 (OwnE.set4 HO'.out i2 Q.1) k2 P.1) (below_drewN _ 1)
              have HSA : Hid (Stay wb ((((((((wr.setCell ⟨g, i2 * 4, none⟩ (.int .i64 Q.1.k)).setCell ⟨g, i2 * 4 + 1, none⟩ (.string Q.1.s)).setCell ⟨g, i2 * 4 + 2, none⟩ (.int .i64 Q.1.n)).setCell ⟨g, i2 * 4 + 3, none⟩ (.slice Q.1.a Q.1.m Q.1.c)).setCell ⟨g, k2 * 4, none⟩ (.int .i64 P.1.k)).setCell ⟨g, k2 * 4 + 1, none⟩ (.string P.1.s)).setCell ⟨g, k2 * 4 + 2, none⟩ (.int .i64 P.1.n)).setCell ⟨g, k2 * 4 + 3, none⟩ (.slice P.1.a P.1.m P.1.c)).drew ((some (⟨g, 0, none⟩ : Addr)).map (·.block)).toList) := ((HSt.out.trans Stay.set4 (fun _ h => .inl (by simpa using h))).trans Stay.set4 (fun _ h => .inl (by simpa using h))).trans (Stay.of_below (below_drewN _ 1) []) (fun _ h => by cases h)
              have hP2 : (((unp es' ++ odd es).set i2 Q.1).set k2 P.1)[i3]? = some P.2 := by rw [List.getElem?_set_ne (by omega), List.getElem?_set_ne (by omega)]; exact hp2
              have hQ2 : (((unp es' ++ odd es).set i2 Q.1).set k2 P.1)[k3]? = some Q.2 := by rw [List.getElem?_set_ne (by omega), List.getElem?_set_ne (by omega)]; exact hq2'
              have HP2 : Hid _ := hP2
              have HQ2 : Hid _ := hQ2
              have HUs : Hid (((((unp es' ++ odd es).set i2 Q.1).set k2 P.1).set i3 Q.2).set k3 P.2 = unp ((es'.set j Q).set qj P) ++ odd es) := by
                show _ = _
                rw [← hi3, ← hk3, ← hi2, ← hk2]
                exact unp_swap P Q (by rw [hle, HLl.out.2.2.1]; omega) (by rw [hle, HLl.out.2.2.1]; omega)
              have hc1 : (i2 : Int) < i := by omega
              have hc2 : (k2 : Int) < i := by omega
              have hc3 : (i3 : Int) < i := by omega
              have hc4 : (k3 : Int) < i := by omega
              have hc5 : i2 < i := by omega
              have hc6 : k2 < i := by omega
              have hc7 : i3 < i := by omega
              have hc8 : k3 < i := by omega
              have hj6 : j ≤ 6 := by omega
              have hngw : ¬ g = w1.heap.size := by have := (OwnR.lt HO.out (k := g) rfl).1; have := HNe.out; omega
              have hngw2 : ¬ w1.heap.size = g := by omega
              obtain ⟨⟨Pk, Ps, Pn, Pa, Pm, Pc⟩, ⟨Pk2, Ps2, Pn2, Pa2, Pm2, Pc2⟩⟩ := P
              obtain ⟨⟨Qk, Qs, Qn, Qa, Qm, Qc⟩, ⟨Qk2, Qs2, Qn2, Qa2, Qm2, Qc2⟩⟩ := Q
              simp only at a0' a1' a2' a3' b0' b1' b2' b3' HOA HSA
              clear hf hP hQ htp htq hvp hvq HRe HRt HSt HO' HV' hp1 hp2 hq1' hq2' hP2 hQ2
              go_upto_region 20 with fail
              go_cut [81, 82, 83, 84, 85, 86, 87, 88, 89, 90, 91, 92, 93, 94, 95, 96, 97, 98, 99, 100, 101, 102] from 81 to 102 (fun u81 u82 u83 u84 u85 u86 u87 u88 u89 u90 u91 u92 u93 u94 u95 u96 u97 u98 u99 u100 u101 u102 wx => ∃ wy, wy = wx ∧ Hid (OwnE wy w2.heap.size (some ⟨g, 0, none⟩) i rc (((unp es' ++ odd es).set i2 ⟨Qk, Qs, Qn, Qa, Qm, Qc⟩).set k2 ⟨Pk, Ps, Pn, Pa, Pm, Pc⟩)) ∧ Hid (Stay wb wy ((some (⟨g, 0, none⟩ : Addr)).map (·.block)).toList))
              case first =>
                go_region
                all_goals
                  go_wp2
                  go_meet
                  exact ⟨_, rfl, HOA, HSA⟩
              case rest =>
              obtain ⟨wy, rfl, HOy, HSy⟩ := hcut
              clear u3 HOA HSA a0' a1' a2' a3' b0' b1' b2' b3' fa0 fya0 fa1 fya1 fa2 fya2 fa3 fya3
              have u3 := (HRw.out wy HSy.out).c3
              obtain ⟨c0', c1', c2', c3'⟩ := OwnE.cells HOy.out HP2.out
              obtain ⟨d0', d1', d2', d3'⟩ := OwnE.cells HOy.out HQ2.out
              have hf := fun o => OwnR.fz HOy.out o
              have fb0 := hf (i3 * 4)
              have fb1 := hf (i3 * 4 + 1)
              have fb2 := hf (i3 * 4 + 2)
              have fb3 := hf (i3 * 4 + 3)
              have fyb0 := hf (k3 * 4)
              have fyb1 := hf (k3 * 4 + 1)
              have fyb2 := hf (k3 * 4 + 2)
              have fyb3 := hf (k3 * 4 + 3)
              have HOB : Hid (OwnE ((((((((wy.setCell ⟨g, i3 * 4, none⟩ (.int .i64 Qk2)).setCell ⟨g, i3 * 4 + 1, none⟩ (.string Qs2)).setCell ⟨g, i3 * 4 + 2, none⟩ (.int .i64 Qn2)).setCell ⟨g, i3 * 4 + 3, none⟩ (.slice Qa2 Qm2 Qc2)).setCell ⟨g, k3 * 4, none⟩ (.int .i64 Pk2)).setCell ⟨g, k3 * 4 + 1, none⟩ (.string Ps2)).setCell ⟨g, k3 * 4 + 2, none⟩ (.int .i64 Pn2)).setCell ⟨g, k3 * 4 + 3, none⟩ (.slice Pa2 Pm2 Pc2)).drew w2.heap.size (some ⟨g, 0, none⟩) i rc (unp ((es'.set j (⟨Qk, Qs, Qn, Qa, Qm, Qc⟩, ⟨Qk2, Qs2, Qn2, Qa2, Qm2, Qc2⟩)).set qj (⟨Pk, Ps, Pn, Pa, Pm, Pc⟩, ⟨Pk2, Ps2, Pn2, Pa2, Pm2, Pc2⟩)) ++ odd es)) := by
                have h1 := OwnR.keep (OwnE.set4 (OwnE.set4 HOy.out i3 ⟨Qk2, Qs2, Qn2, Qa2, Qm2, Qc2⟩) k3 ⟨Pk2, Ps2, Pn2, Pa2, Pm2, Pc2⟩) (below_drewN _ 1)
                have h2 := HUs.out
                simp only at h2
                rw [h2] at h1
                exact h1
              have HSB : Hid (Stay wb ((((((((wy.setCell ⟨g, i3 * 4, none⟩ (.int .i64 Qk2)).setCell ⟨g, i3 * 4 + 1, none⟩ (.string Qs2)).setCell ⟨g, i3 * 4 + 2, none⟩ (.int .i64 Qn2)).setCell ⟨g, i3 * 4 + 3, none⟩ (.slice Qa2 Qm2 Qc2)).setCell ⟨g, k3 * 4, none⟩ (.int .i64 Pk2)).setCell ⟨g, k3 * 4 + 1, none⟩ (.string Ps2)).setCell ⟨g, k3 * 4 + 2, none⟩ (.int .i64 Pn2)).setCell ⟨g, k3 * 4 + 3, none⟩ (.slice Pa2 Pm2 Pc2)).drew ((some (⟨g, 0, none⟩ : Addr)).map (·.block)).toList) := ((HSy.out.trans Stay.set4 (fun _ h => .inl (by simpa using h))).trans Stay.set4 (fun _ h => .inl (by simpa using h))).trans (Stay.of_below (below_drewN _ 1) []) (fun _ h => by cases h)
              simp only at c0' c1' c2' c3' d0' d1' d2' d3'
              clear hf HOy HSy HUs HP2 HQ2
              go_upto_region 21 with fail
              go_region
              all_goals
                go_wp2
                go_roundg (gk - 1)
                case measure => omega
                case rel => exact ⟨j + 1, _, _, by omega, by go_num, HOB, HV2, HRe2, HRt2, HSB⟩
            · have hrev : ts' = (prs (l.map trn)).reverse := HRt.out.done (by rw [HLl.out.2.2.2]; omega) (by rw [HLl.out.2.2.2]; omega)
              obtain ⟨⟨hR, hZ⟩, hE⟩ := HFin.out wr (unp es' ++ odd es) HSt.out HO'.out (by unfold revd; rw [if_neg (by decide), if_pos rfl, ← hrev]; exact HV'.out.unp.append HVe.out.odd)
              clear HRe HRt hrev
              obtain ⟨HE1, HE2⟩ := hE _ rfl
              have v0 := hR.c0
              have v1 := hR.c1
              have v2 := hR.c2
              have v3 := hR.c3
              have x0 := hZ.c0
              have x1 := hZ.c1
              have x2 := hZ.c2
              have x3 := hZ.c3
              have y0 := hZ.fz 0
              have y1 := hZ.fz 1
              have y2 := hZ.fz 2
              have y3 := hZ.fz 3
              clear hR hZ hE HFin
              go_wp2
              exact ret_R rfl rfl HE1.out HE2.out
        · obtain ⟨⟨hR, hZ⟩, hE⟩ := HFin.out wr es (Stay.of_below (Below.refl _ _) _) HO.out (by unfold revd; rw [if_neg hk9, if_neg hk8]; exact HVe.out)
          obtain ⟨HE1, HE2⟩ := hE _ rfl
          have v0 := hR.c0
          have v1 := hR.c1
          have v2 := hR.c2
          have v3 := hR.c3
          have x0 := hZ.c0
          have x1 := hZ.c1
          have x2 := hZ.c2
          have x3 := hZ.c3
          have y0 := hZ.fz 0
          have y1 := hZ.fz 1
          have y2 := hZ.fz 2
          have y3 := hZ.fz 3
          clear hR hZ hE HFin
          go_wp2
          exact ret_R rfl rfl HE1.out HE2.out
theorem turned_all (d : Nat) : TrnC d := by
  induction d with
  | zero => exact turned_step 0 (fun _ h => by omega)
  | succ d ih => exact turned_step (d + 1) (fun d' h => by cases h; exact ih)
end Go.Proofs.Ytiamgnfbgiognaa

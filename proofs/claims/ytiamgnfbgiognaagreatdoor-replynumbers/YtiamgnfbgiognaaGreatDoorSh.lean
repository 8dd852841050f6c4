/-
  Sorted.
-/
import Derived.Test.YtiamgnfbgiognaaGreatDoorSg
namespace Go.Proofs.YtiamgnfbgiognaaGreatDoor
open Go.RowKit Go.PlainAid

theorem srt_t (t : RT) : srt t = .mk (mean t.k t.s t.n t.l).k (mean t.k t.s t.n t.l).s (mean t.k t.s t.n t.l).n (ordd (mean t.k t.s t.n t.l).k ((mean t.k t.s t.n t.l).l.map srt)) := by
  obtain ⟨k, s, n, l⟩ := t
  rw [srt_mk]
  show RT.mk _ _ _ _ = RT.mk k _ _ (ordd k ((if hasL k then l else []).map srt))
  congr 1
  by_cases h : hasL k = true
  · rw [if_pos h, if_pos h]
  · rw [if_neg h, if_neg h]
    unfold hasL at h
    unfold ordd
    simp only [decide_eq_true_eq] at h
    rw [if_neg (fun e => h (.inr (.inr e))), if_neg (fun e => h (.inr (.inl e)))]
    rfl
theorem Hd.ofd {w : World} {F : Nat → Prop} {d : Nat} {a : Option Addr} {m c : Nat} {l : List RT} {es : List El} (h1 : RdE w F a m c es) (h2 : m ≤ 12) (h3 : Vls w F (d - 1) es l) (h0 : d = 0 → l = []) : Hd w F d a m c l := by
  cases d with
  | zero =>
    have := h0 rfl
    subst this
    have h4 := h3.len
    have : es = [] := List.length_eq_zero_iff.1 (by simpa using h4)
    subst this
    exact ⟨rfl, h1⟩
  | succ d => exact Hd.of h1 h2 h3
theorem OwnE.rd {w : World} {B g n c : Nat} {es : List El} {F : Nat → Prop} (h : OwnE w B (some ⟨g, 0, none⟩) n c es) (hF : F g) : RdE w F (some ⟨g, 0, none⟩) n c es :=
  ⟨OwnE.len h, (OwnR.cap h).1, (OwnR.cap h).2, fun e => (by cases e), fun j e he => ⟨g, 0, rfl, hF, by
    have := OwnE.cells h he
    simp only [Nat.zero_add]
    exact this⟩⟩
/-- A reply came back, in memory of its own. -/
def RetR (w : World) (d : Nat) (t : RT) (r : Ending) (w' : World) : Prop := Below w.heap.size w w' ∧ ∃ e' : El, r = .returned e'.v ∧ Vl w' (fun g => w.heap.size ≤ g) d e' t
def SrtC (d : Nat) : Prop := ∀ (e : El) (t : RT) (w : World), VL w d e t → Calls Tryz.prog 19 #[e.v] w (RetR w d (srt t))
set_option maxRecDepth 100000 in
set_option maxHeartbeats 4000000 in
theorem Sorted_step (d : Nat) (ih : ∀ d', d = d' + 1 → SrtC d') : SrtC d := by
  intro e t w h
  obtain ⟨em, hem⟩ : ∃ em, e.mean = em := ⟨_, rfl⟩
  have V1 := h.mean
  rw [hem] at V1
  have hS := srt_t t
  rw [← V1.k, ← V1.s, ← V1.n] at hS
  have hL1 := V1.l
  generalize (mean t.k t.s t.n t.l).l = l1 at hS hL1
  rw [hS]
  have HM := meant_any e
  rw [hem] at HM
  clear V1 h hem hS
  obtain ⟨k, s, n, a, m, c⟩ := e
  obtain ⟨k1, s1, n1, a1, m1, c1⟩ := em
  simp only at hL1 ⊢
  have HL1 : Hid _ := hL1
  have HN : Hid (l1.length = m1 ∧ m1 ≤ 12) := ⟨hL1.len.1, hL1.len.2⟩
  have hm12 : m1 ≤ 12 := hL1.len.2
  have HD0 : Hid (d = 0 → m1 = 0) := fun h0 => by
    subst h0
    have := hL1.1
    have h2 := hL1.len.1
    rw [this] at h2
    simpa using h2.symm
  clear hL1
  simp only [El.v] at HM
  simp only [El.v]
  obtain ⟨w0, hw0⟩ : ∃ w0, w.alloc (.cells #[.int .i64 k, .string s, .int .i64 n, .slice a m c] 24) = w0 := ⟨_, rfl⟩
  obtain ⟨w1, hw1⟩ : ∃ w1, w0.alloc (.cells #[.int .i64 0, .string ⟨#[]⟩, .int .i64 0, .slice none 0 0] 24) = w1 := ⟨_, rfl⟩
  have HB1 : Hid (Below w.heap.size w w1) := by
    rw [← hw1, ← hw0]; exact below2 w _ _
  have hA : BR w1 w.heap.size k s n a m c := by
    rw [← hw1, ← hw0]; exact (BR.new w k s n a m c).keep (alloc_below _ _)
  have HA : Hid _ := hA
  have HBb : Hid (BR w1 w0.heap.size 0 ⟨#[]⟩ 0 none 0 0) := by
    rw [← hw1]; exact BR.new w0 _ _ _ _ _ _
  have HNe : Hid (w.heap.size < w0.heap.size) := by rw [← hw0]; exact alloc_lt w _ _
  have p0 := hA.c0
  have p1 := hA.c1
  have p2 := hA.c2
  have p3 := hA.c3
  clear hA
  go_enter Tryz.func19, Tryz.ntmps19
  go_wp2_with fail
  refine (HM _).mono ?_
  rintro e w2 ⟨hb, rfl⟩
  have HA2 : Hid _ := HA.out.keep hb
  have HC2 : Hid _ := HBb.out.keep hb
  have HB2 := step_below HB1 hb
  have q0 := HA2.out.c0
  have q1 := HA2.out.c1
  have q2 := HA2.out.c2
  have q3 := HA2.out.c3
  have f0 := HA2.out.fz 0
  have f1 := HA2.out.fz 1
  have f2 := HA2.out.fz 2
  have f3 := HA2.out.fz 3
  obtain ⟨wy, hwy⟩ : ∃ wy, (((w2.setCell ⟨w.heap.size, 0, none⟩ (.int .i64 k1)).setCell ⟨w.heap.size, 1, none⟩ (.string s1)).setCell ⟨w.heap.size, 2, none⟩ (.int .i64 n1)).setCell ⟨w.heap.size, 3, none⟩ (.slice a1 m1 c1) = wy := ⟨_, rfl⟩
  have HAy : Hid (BR wy w.heap.size k1 s1 n1 a1 m1 c1) := by rw [← hwy]; exact HA2.out.put _ _ _ _ _ _
  have HCy : Hid (BR wy w0.heap.size 0 ⟨#[]⟩ 0 none 0 0) := by rw [← hwy]; exact HC2.out.stay Stay.set4 (by have := HNe.out; simp; omega)
  have HBy : Hid (Below w.heap.size w wy) := by rw [← hwy]; exact HB2.out.trans (Stay.set4.below (fun i hi => by simp at hi; omega) HB2.out.size)
  have z3 := HAy.out.c3
  have hmk := make_R wy m1 hm12
  obtain ⟨w4, hw4⟩ : ∃ w4, wy.alloc (.cells (rcells (List.replicate m1 El.z)).toArray 24) = w4 := ⟨_, rfl⟩
  rw [hw4] at hmk
  have hb4 : Below wy.heap.size wy w4 := by rw [← hw4]; exact alloc_below wy _
  have HA4 : Hid _ := HAy.out.keep hb4
  have HC4 : Hid _ := HCy.out.keep hb4
  have HB4 := step_below HBy hb4
  have HO4 : Hid (OwnE w4 w.heap.size (some ⟨wy.heap.size, 0, none⟩) m1 m1 (List.replicate m1 El.z)) := by rw [← hw4]; exact OwnE.made wy _ _ m1 (by simp) HBy.out.size hm12
  have HG4 : Hid (wy.heap.size < w4.heap.size) := by rw [← hw4]; exact alloc_lt wy _ _
  have HG1 : Hid (w.heap.size < wy.heap.size ∧ w0.heap.size < wy.heap.size) := ⟨HAy.out.lt, HCy.out.lt⟩
  have y3 := HA4.out.c3
  clear hb hb4 HM HA HBb HB1 HA2 HC2 HB2 HAy HCy hw0 hw1 hw4
  go_wp2
  go_loopg [15] m1 (fun gk iv wr => ∃ (i : Nat) (xs : List El), i + gk = m1 ∧ iv = .int .i64 i ∧ Hid (OwnE wr w.heap.size (some ⟨wy.heap.size, 0, none⟩) m1 m1 (xs ++ List.replicate (m1 - i) El.z)) ∧ Hid (Vls wr (fun g => wy.heap.size < g) (d - 1) xs ((l1.take i).map srt)) ∧ Hid (Below w.heap.size w wr) ∧ Hid (Stay w4 wr [wy.heap.size]))
  case atStart => exact ⟨0, [], by omega, rfl, HO4, Vls.nil _ _ _, HB4, Stay.of_below (Below.refl _ _) _⟩
  case round =>
    obtain ⟨i, xs, hi, rfl, HO, HV, HB, HT⟩ := hrel
    by_cases h8 : (i : Int) < m1
    · obtain ⟨d', g1, o1, e1, t1, hd, rfl, hg1, ht1, hv1, cx0, cx1, cx2, cx3⟩ := (Hd.keep (fun g hg _ => HB.out.block g hg) d HL1.out).get (j := i) (by omega)
      obtain ⟨w5, hw5⟩ : ∃ w5, wr.alloc (.cells #[.int .i64 e1.k, .string e1.s, .int .i64 e1.n, .slice e1.a e1.m e1.c] 24) = w5 := ⟨_, rfl⟩
      have hb5 : Below wr.heap.size wr w5 := by rw [← hw5]; exact alloc_below wr _
      have HB5 := step_below HB hb5
      have hA5 : BR w5 wr.heap.size e1.k e1.s e1.n e1.a e1.m e1.c := by rw [← hw5]; exact BR.new wr _ _ _ _ _ _
      have r0 := hA5.c0
      have r1 := hA5.c1
      have r2 := hA5.c2
      have r3 := hA5.c3
      have HC : Calls Tryz.prog 19 #[e1.v] w5 (RetR w5 d' (srt t1)) := ih d' hd e1 t1 w5 (hv1.lo.kp hb5)
      have HBs : Hid (Below wr.heap.size wr w5) := hb5
      have hin : i < m1 := by omega
      have hxl : xs.length = i := by have := HV.out.len; rw [List.length_map, List.length_take, HN.out.1] at this; omega
      have HXL : Hid (xs.length = i) := hxl
      have HTk : Hid (∀ x, (l1.take (i + 1)).map x = (l1.take i).map x ++ [x t1]) := fun (x : RT → RT) => by rw [List.take_add_one, ht1, List.map_append]; rfl
      have HWl : Hid (wy.heap.size < wr.heap.size) := Nat.lt_of_lt_of_le HG4.out HT.out.size
      obtain ⟨ek1, es1, en1, ea1, em1, ec1⟩ := e1
      simp only at cx0 cx1 cx2 cx3 hw5 r0 r1 r2 r3
      simp only [El.v] at HC
      clear hA5 hv1 ht1 hb5 hg1 hxl
      go_wp2_with fail
      refine HC.mono ?_
      rintro e w6 ⟨hb, x, rfl, hvx⟩
      have HB6 := step_below HB5 hb
      have hb6 : Below wr.heap.size wr w6 := HBs.out.trans (hb.mono HBs.out.size)
      have hO6 : OwnE w6 w.heap.size (some ⟨wy.heap.size, 0, none⟩) m1 m1 (xs ++ List.replicate (m1 - i) El.z) := OwnR.keep HO.out hb6
      obtain ⟨q, hq⟩ : ∃ q, (xs ++ List.replicate (m1 - i) El.z)[i]? = some q := ⟨_, List.getElem?_eq_getElem (by rw [OwnE.len hO6]; exact hin)⟩
      obtain ⟨s0, s1', s2, s3⟩ := OwnE.cells hO6 hq
      have g0 := OwnR.fz hO6 (i * 4)
      have g1' := OwnR.fz hO6 (i * 4 + 1)
      have g2 := OwnR.fz hO6 (i * 4 + 2)
      have g3 := OwnR.fz hO6 (i * 4 + 3)
      have HO7 : Hid (OwnE ((((w6.setCell ⟨wy.heap.size, i * 4, none⟩ (.int .i64 x.k)).setCell ⟨wy.heap.size, i * 4 + 1, none⟩ (.string x.s)).setCell ⟨wy.heap.size, i * 4 + 2, none⟩ (.int .i64 x.n)).setCell ⟨wy.heap.size, i * 4 + 3, none⟩ (.slice x.a x.m x.c)) w.heap.size (some ⟨wy.heap.size, 0, none⟩) m1 m1 ((xs ++ [x]) ++ List.replicate (m1 - (i + 1)) El.z)) := by
        have h1 := OwnE.set4 hO6 i x
        rw [set_one _ x HXL.out hin] at h1
        exact h1
      have HV7 : Hid (Vls ((((w6.setCell ⟨wy.heap.size, i * 4, none⟩ (.int .i64 x.k)).setCell ⟨wy.heap.size, i * 4 + 1, none⟩ (.string x.s)).setCell ⟨wy.heap.size, i * 4 + 2, none⟩ (.int .i64 x.n)).setCell ⟨wy.heap.size, i * 4 + 3, none⟩ (.slice x.a x.m x.c)) (fun g => wy.heap.size < g) (d - 1) (xs ++ [x]) ((l1.take (i + 1)).map srt)) := by
        rw [HTk.out srt]
        have hx : Vl w6 (fun g => wy.heap.size < g) (d - 1) x (srt t1) := by
          rw [show d - 1 = d' by omega]
          refine hvx.mono (fun g _ hg => ?_)
          have h1 := HBs.out.size
          have h2 := HWl.out
          omega
        exact ((HV.out.kp hb6).append (Vls.one hx)).keep (fun g hg hf => Stay.set4.block g hg (by simp; omega))
      have HB7 : Hid (Below w.heap.size w ((((w6.setCell ⟨wy.heap.size, i * 4, none⟩ (.int .i64 x.k)).setCell ⟨wy.heap.size, i * 4 + 1, none⟩ (.string x.s)).setCell ⟨wy.heap.size, i * 4 + 2, none⟩ (.int .i64 x.n)).setCell ⟨wy.heap.size, i * 4 + 3, none⟩ (.slice x.a x.m x.c))) := HB6.out.trans (Stay.set4.below (fun k hk => by have := HBy.out.size; simp at hk; omega) HB6.out.size)
      have HT7 : Hid (Stay w4 ((((w6.setCell ⟨wy.heap.size, i * 4, none⟩ (.int .i64 x.k)).setCell ⟨wy.heap.size, i * 4 + 1, none⟩ (.string x.s)).setCell ⟨wy.heap.size, i * 4 + 2, none⟩ (.int .i64 x.n)).setCell ⟨wy.heap.size, i * 4 + 3, none⟩ (.slice x.a x.m x.c)) [wy.heap.size]) := (HT.out.trans (Stay.of_below hb6 [wy.heap.size]) (fun _ h => .inl h)).trans Stay.set4 (fun _ h => .inl h)
      obtain ⟨xk, xs', xn, xa, xm, xc⟩ := x
      simp only at HO7 HB7 HT7 HV7
      simp only [El.v]
      clear hb hvx hq hO6 hb6 HC
      go_wp2
      go_roundg (gk - 1)
      case measure => omega
      case rel => exact ⟨i + 1, _, by omega, by go_num, HO7, HV7, HB7, HT7⟩
    · have HOe : Hid (OwnE wr w.heap.size (some ⟨wy.heap.size, 0, none⟩) m1 m1 xs) := by
        have h1 := HO.out
        rw [show m1 - i = 0 by omega, List.replicate_zero, List.append_nil] at h1
        exact h1
      have HVe : Hid (Vls wr (fun g => wy.heap.size < g) (d - 1) xs (l1.map srt)) := by
        have h1 := HV.out
        rw [List.take_of_length_le (by rw [HN.out.1]; omega)] at h1
        exact h1
      have HAr : Hid (BR wr w.heap.size k1 s1 n1 a1 m1 c1) := HA4.out.stay HT.out (by have := HG1.out; simp; omega)
      have HCr : Hid (BR wr w0.heap.size 0 ⟨#[]⟩ 0 none 0 0) := HC4.out.stay HT.out (by have := HG1.out; simp; omega)
      clear HO HV
      have HFin : Hid (∀ wx xs', Stay wr wx [wy.heap.size] → OwnE wx w.heap.size (some ⟨wy.heap.size, 0, none⟩) m1 m1 xs' → Vls wr (fun g => wy.heap.size < g) (d - 1) xs' (ordd k1 (l1.map srt)) → BR wx w.heap.size k1 s1 n1 a1 m1 c1 ∧ ∀ wv, wx.setCell ⟨w.heap.size, 3, none⟩ (.slice (some ⟨wy.heap.size, 0, none⟩) m1 m1) = wv → BR wv w.heap.size k1 s1 n1 (some ⟨wy.heap.size, 0, none⟩) m1 m1 ∧ BR wv w0.heap.size 0 ⟨#[]⟩ 0 none 0 0 ∧ ∀ w9, w9 = (((wv.setCell ⟨w0.heap.size, 0, none⟩ (.int .i64 k1)).setCell ⟨w0.heap.size, 1, none⟩ (.string s1)).setCell ⟨w0.heap.size, 2, none⟩ (.int .i64 n1)).setCell ⟨w0.heap.size, 3, none⟩ (.slice (some ⟨wy.heap.size, 0, none⟩) m1 m1) → w9.heap[w0.heap.size]? = some (.cells #[.int .i64 k1, .string s1, .int .i64 n1, .slice (some ⟨wy.heap.size, 0, none⟩) m1 m1] 24 (0, 0)) ∧ Below w.heap.size w w9 ∧ Vl w9 (fun g => w.heap.size ≤ g) d ⟨k1, s1, n1, some ⟨wy.heap.size, 0, none⟩, m1, m1⟩ (.mk k1 s1 n1 (ordd k1 (l1.map srt)))) := by
        intro wx xs' hs hO hV
        have hg := HG1.out
        have hne := HNe.out
        have hA := HAr.out.stay hs (by simp; omega)
        have hC := HCr.out.stay hs (by simp; omega)
        refine ⟨hA, fun wv hwv => ?_⟩
        have hs1 : Stay wx wv [w.heap.size] := by rw [← hwv]; exact Stay.set
        have hC1 := hC.stay hs1 (by simp; omega)
        have hA1 : BR wv w.heap.size k1 s1 n1 (some ⟨wy.heap.size, 0, none⟩) m1 m1 := by rw [← hwv]; exact hA.put3 _ _ _
        refine ⟨hA1, hC1, fun w9 h9 => ?_⟩
        have hC2 := hC1.put k1 s1 n1 (some ⟨wy.heap.size, 0, none⟩) m1 m1
        rw [← h9] at hC2
        have hs2 : Stay wv w9 [w0.heap.size] := by rw [h9]; exact Stay.set4
        have hs9 : Stay wx w9 [w.heap.size, w0.heap.size] := (hs1.mono (by simp)).trans hs2 (fun i hi => .inl (by simp at hi; simp [hi]))
        have hB3 : Below w.heap.size w wx := HB.out.trans (hs.below (fun i hi => by simp at hi; omega) HB.out.size)
        refine ⟨hC2.blk, hB3.trans (hs9.below (fun i hi => by simp at hi; omega) hB3.size), rfl, rfl, rfl, ?_⟩
        have hO9 : OwnE w9 w.heap.size (some ⟨wy.heap.size, 0, none⟩) m1 m1 xs' := OwnR.kept hO (fun k hk => by cases hk; exact hs9.block _ (OwnR.lt hO rfl).2.1 (by simp; omega))
        have hV9 : Vls w9 (fun g => wy.heap.size < g) (d - 1) xs' (ordd k1 (l1.map srt)) := (hV.keep (fun g hg' hf => hs.block g hg' (by simp; omega))).keep (fun g hg' hf => hs9.block g hg' (by simp; omega))
        refine Hd.ofd (OwnE.rd hO9 (by omega)) hm12 (hV9.mono (fun g _ hf => by omega)) (fun h0 => ?_)
        have h1 := HD0.out h0
        have h2 := hV.len
        rw [OwnE.len hO, h1] at h2
        exact List.length_eq_zero_iff.1 h2.symm
      have HF : Hid (¬ (wy.heap.size < wy.heap.size)) := Nat.lt_irrefl _
      have u0 := HAr.out.c0
      by_cases hk9 : k1 = 9
      · subst hk9
        have HS := SortR_any (d - 1) (fun g => wy.heap.size < g) w.heap.size wy.heap.size m1 m1 xs (l1.map srt) wr HOe.out HVe.out HF.out hm12
        go_wp2_with fail
        refine HS.mono ?_
        rintro e wx ⟨rfl, hs, xs', hO, hV⟩
        obtain ⟨hA, hE⟩ := HFin.out wx xs' hs hO (by unfold ordd; rw [if_pos rfl]; exact hV)
        obtain ⟨wv, hwv⟩ : ∃ wv, wx.setCell ⟨w.heap.size, 3, none⟩ (.slice (some ⟨wy.heap.size, 0, none⟩) m1 m1) = wv := ⟨_, rfl⟩
        obtain ⟨hA1, hC1, hE1⟩ := hE wv hwv
        obtain ⟨hg9, hb9, hv9⟩ := hE1 _ rfl
        have HE1 : Hid _ := hg9
        have HE2 : Hid _ := hb9
        have HE3 : Hid _ := hv9
        have v3 := hA.c3
        have vf := hA.fz 3
        have HA1 : Hid _ := hA1
        have HC1 : Hid _ := hC1
        clear hA hE hA1 hC1 hE1 hg9 hb9 hv9 HFin HOe HVe hwy hmk hs hO hV HS
        go_upto_region 14 with fail
        try rw [hwv]
        clear hwv u0 v3 vf
        have v0 := HA1.out.c0
        have v1 := HA1.out.c1
        have v2 := HA1.out.c2
        have v3 := HA1.out.c3
        have x0 := HC1.out.c0
        have x1 := HC1.out.c1
        have x2 := HC1.out.c2
        have x3 := HC1.out.c3
        have y0 := HC1.out.fz 0
        have y1 := HC1.out.fz 1
        have y2 := HC1.out.fz 2
        have y4 := HC1.out.fz 3
        go_wp2
        exact ret_R rfl rfl HE1.out ⟨HE2.out, _, rfl, HE3.out⟩
      · by_cases hk8 : k1 = 8
        · subst hk8
          have HS := sortPairs_any (d - 1) (fun g => wy.heap.size < g) w.heap.size wy.heap.size m1 m1 xs (l1.map srt) wr HOe.out HVe.out HF.out hm12
          go_wp2_with fail
          refine HS.mono ?_
          rintro e wx ⟨rfl, hs, xs', hO, hV⟩
          obtain ⟨hA, hE⟩ := HFin.out wx xs' hs hO (by unfold ordd; rw [if_neg (by decide), if_pos rfl]; exact hV)
          obtain ⟨wv, hwv⟩ : ∃ wv, wx.setCell ⟨w.heap.size, 3, none⟩ (.slice (some ⟨wy.heap.size, 0, none⟩) m1 m1) = wv := ⟨_, rfl⟩
          obtain ⟨hA1, hC1, hE1⟩ := hE wv hwv
          obtain ⟨hg9, hb9, hv9⟩ := hE1 _ rfl
          have HE1 : Hid _ := hg9
          have HE2 : Hid _ := hb9
          have HE3 : Hid _ := hv9
          have v3 := hA.c3
          have vf := hA.fz 3
          have HA1 : Hid _ := hA1
          have HC1 : Hid _ := hC1
          clear hA hE hA1 hC1 hE1 hg9 hb9 hv9 HFin HOe HVe hwy hmk hs hO hV HS
          go_upto_region 14 with fail
          try rw [hwv]
          clear hwv u0 v3 vf
          have v0 := HA1.out.c0
          have v1 := HA1.out.c1
          have v2 := HA1.out.c2
          have v3 := HA1.out.c3
          have x0 := HC1.out.c0
          have x1 := HC1.out.c1
          have x2 := HC1.out.c2
          have x3 := HC1.out.c3
          have y0 := HC1.out.fz 0
          have y1 := HC1.out.fz 1
          have y2 := HC1.out.fz 2
          have y4 := HC1.out.fz 3
          go_wp2
          exact ret_R rfl rfl HE1.out ⟨HE2.out, _, rfl, HE3.out⟩
        · obtain ⟨hA, hE⟩ := HFin.out wr xs (Stay.of_below (Below.refl _ _) _) HOe.out (by unfold ordd; rw [if_neg hk9, if_neg hk8]; exact HVe.out)
          obtain ⟨wv, hwv⟩ : ∃ wv, wr.setCell ⟨w.heap.size, 3, none⟩ (.slice (some ⟨wy.heap.size, 0, none⟩) m1 m1) = wv := ⟨_, rfl⟩
          obtain ⟨hA1, hC1, hE1⟩ := hE wv hwv
          obtain ⟨hg9, hb9, hv9⟩ := hE1 _ rfl
          have HE1 : Hid _ := hg9
          have HE2 : Hid _ := hb9
          have HE3 : Hid _ := hv9
          have v3 := hA.c3
          have vf := hA.fz 3
          have HA1 : Hid _ := hA1
          have HC1 : Hid _ := hC1
          clear hA hE hA1 hC1 hE1 hg9 hb9 hv9 HFin HOe HVe hwy hmk
          go_upto_region 14 with fail
          try rw [hwv]
          clear hwv u0 v3 vf
          have v0 := HA1.out.c0
          have v1 := HA1.out.c1
          have v2 := HA1.out.c2
          have v3 := HA1.out.c3
          have x0 := HC1.out.c0
          have x1 := HC1.out.c1
          have x2 := HC1.out.c2
          have x3 := HC1.out.c3
          have y0 := HC1.out.fz 0
          have y1 := HC1.out.fz 1
          have y2 := HC1.out.fz 2
          have y4 := HC1.out.fz 3
          go_wp2
          exact ret_R rfl rfl HE1.out ⟨HE2.out, _, rfl, HE3.out⟩
theorem Sorted_all (d : Nat) : SrtC d := by
  induction d with
  | zero => exact Sorted_step 0 (fun _ h => by omega)
  | succ d ih => exact Sorted_step (d + 1) (fun d' h => by cases h; exact ih)
end Go.Proofs.YtiamgnfbgiognaaGreatDoor

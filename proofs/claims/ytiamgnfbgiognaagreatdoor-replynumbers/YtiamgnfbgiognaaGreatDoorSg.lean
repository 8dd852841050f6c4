/-
  sortPairs.
-/
import Derived.Test.YtiamgnfbgiognaaGreatDoorSf
namespace Go.Proofs.YtiamgnfbgiognaaGreatDoor
open Go.RowKit Go.PlainAid

theorem Vls.prs {w : World} {F : Nat → Prop} {d : Nat} {es : List El} {ts : List RT} (h : Vls w F d es ts) : Vps w F d (prs es) (prs ts) :=
  ⟨by rw [prs_len, prs_len, h.len], fun j e t he ht => ⟨h.el _ _ _ (prs_at es j e he).1 (prs_at ts j t ht).1, h.el _ _ _ (prs_at es j e he).2 (prs_at ts j t ht).2⟩⟩
theorem Vps.unp {w : World} {F : Nat → Prop} {d : Nat} : ∀ {es : List PE} {ts : List (RT × RT)}, Vps w F d es ts → Vls w F d (unp es) (unp ts)
  | [], [], _ => Vls.nil w F d
  | [], _ :: _, h => by have := h.len; simp at this
  | _ :: _, [], h => by have := h.len; simp at this
  | e :: es, t :: ts, h => by
    have h0 := h.el 0 e t rfl rfl
    have ht : Vps w F d es ts := ⟨by simpa using h.len, fun j e' t' he ht => h.el (j + 1) e' t' (by simpa using he) (by simpa using ht)⟩
    exact ((Vls.one h0.f).append (Vls.one h0.v)).append (Vps.unp ht)
theorem Vls.drop {w : World} {F : Nat → Prop} {d : Nat} {es : List El} {ts : List RT} (h : Vls w F d es ts) (k : Nat) : Vls w F d (es.drop k) (ts.drop k) :=
  ⟨by rw [List.length_drop, List.length_drop, h.len], fun j e t he ht => h.el (k + j) e t (by rw [List.getElem?_drop] at he; exact he) (by rw [List.getElem?_drop] at ht; exact ht)⟩
theorem Vls.odd {w : World} {F : Nat → Prop} {d : Nat} {es : List El} {ts : List RT} (h : Vls w F d es ts) : Vls w F d (odd es) (odd ts) := by
  rw [odd_drop, odd_drop, h.len]; exact h.drop _
set_option maxRecDepth 100000 in
set_option maxHeartbeats 4000000 in
theorem sortPairs_any (d : Nat) (F : Nat → Prop) (B g n c : Nat) (es : List El) (ts : List RT) (w : World) (h : OwnE w B (some ⟨g, 0, none⟩) n c es) (hv : Vls w F d es ts) (hF : ¬ F g) (hn : n ≤ 12) :
    Calls Tryz.prog 29 #[.slice (some ⟨g, 0, none⟩) n c] w fun e w' => e = .returned (.tuple #[]) ∧ Stay w w' [g] ∧ ∃ es', OwnE w' B (some ⟨g, 0, none⟩) n c es' ∧ Vls w F d es' (unp (sortP (prs ts)) ++ odd ts) := by
  have HO : Hid (OwnE w B (some ⟨g, 0, none⟩) n c es) := h
  have HV : Hid (Vls w F d es ts) := hv
  have HF : Hid (¬ F g) := hF
  have HGB : Hid (g < w.heap.size) := (OwnR.lt h rfl).2.1
  obtain ⟨m, hm⟩ : ∃ m, n / 2 = m := ⟨_, rfl⟩
  have HM : Hid ((prs es).length = m ∧ 2 * m ≤ n ∧ es.length = n ∧ m = n / 2) := ⟨by rw [prs_len, OwnE.len h, hm], by omega, OwnE.len h, hm.symm⟩
  have hm6 : m ≤ 6 := by omega
  have hq : (n : Int).tdiv 2 = (m : Int) := by rw [Int.tdiv_eq_ediv_of_nonneg (by omega)]; omega
  have hq2 : IntKind.i64.wrap (m : Int) = (m : Int) := by rw [IntKind.wrap_i64]; omega
  have hmk := make_P w m (by omega)
  obtain ⟨w1, hw1⟩ : ∃ w1, w.alloc (.cells (qcells (List.replicate m PE.z)).toArray 66) = w1 := ⟨_, rfl⟩
  rw [hw1] at hmk
  have HB1 : Hid (Below w.heap.size w w1) := by rw [← hw1]; exact alloc_below w _
  have HP1 : Hid (OwnP w1 w.heap.size (some ⟨w.heap.size, 0, none⟩) m m (List.replicate m PE.z)) := by rw [← hw1]; exact OwnP.made w _ _ m (by simp) (Nat.le_refl _) (by omega)
  clear h hv hF hm hw1
  go_enter Tryz.func29, Tryz.ntmps29
  go_wp2
  go_loopg [12] m (fun gk iv wr => ∃ i : Nat, i + gk = m ∧ iv = .int .i64 i ∧ Hid (OwnP wr w.heap.size (some ⟨w.heap.size, 0, none⟩) m m ((prs es).take i ++ List.replicate (m - i) PE.z)) ∧ Hid (Below w.heap.size w wr))
  case atStart => exact ⟨0, by omega, rfl, HP1, HB1⟩
  case round =>
    obtain ⟨i, hi, rfl, HP, HB⟩ := hrel
    by_cases h8 : (i : Int) < m
    · obtain ⟨p, hp⟩ : ∃ p, (prs es)[i]? = some p := ⟨_, List.getElem?_eq_getElem (by rw [HM.out.1]; omega)⟩
      obtain ⟨hp1, hp2⟩ := prs_at es i p hp
      obtain ⟨i2, hi2⟩ : ∃ i2, 2 * i = i2 := ⟨_, rfl⟩
      obtain ⟨i3, hi3⟩ : ∃ i3, i2 + 1 = i3 := ⟨_, rfl⟩
      rw [hi2] at hp1
      rw [hi2, hi3] at hp2
      have hO : OwnE wr B (some ⟨g, 0, none⟩) n c es := OwnR.kept HO.out (fun k hk => by cases hk; exact HB.out.block _ HGB.out)
      obtain ⟨a0, a1, a2, a3⟩ := OwnE.cells hO hp1
      obtain ⟨b0, b1, b2, b3⟩ := OwnE.cells hO hp2
      have hf := fun o => OwnR.fz HP.out o
      have f0 := hf (i * 8)
      have f1 := hf (i * 8 + 1)
      have f2 := hf (i * 8 + 2)
      have f3 := hf (i * 8 + 3)
      have f4 := hf (i * 8 + 4)
      have f5 := hf (i * 8 + 5)
      have f6 := hf (i * 8 + 6)
      have f7 := hf (i * 8 + 7)
      have hw1 : IntKind.i64.wrap (2 * (i : Int)) = (i2 : Int) := by rw [IntKind.wrap_i64]; omega
      have hw2 : IntKind.i64.wrap ((i2 : Int) + 1) = (i3 : Int) := by rw [IntKind.wrap_i64]; omega
      have hj1 : (i2 : Int) < n := by have := HM.out.2.1; omega
      have hj2 : (i3 : Int) < n := by have := HM.out.2.1; omega
      have hk1 : i2 < n := by omega
      have hk2 : i3 < n := by omega
      have him : i < m := by omega
      have hi6 : i ≤ 6 := by omega
      have HPn : Hid (OwnP ((((((((wr.setCell ⟨w.heap.size, i * 8, none⟩ (.int .i64 p.1.k)).setCell ⟨w.heap.size, i * 8 + 1, none⟩ (.string p.1.s)).setCell ⟨w.heap.size, i * 8 + 2, none⟩ (.int .i64 p.1.n)).setCell ⟨w.heap.size, i * 8 + 3, none⟩ (.slice p.1.a p.1.m p.1.c)).setCell ⟨w.heap.size, i * 8 + 4, none⟩ (.int .i64 p.2.k)).setCell ⟨w.heap.size, i * 8 + 5, none⟩ (.string p.2.s)).setCell ⟨w.heap.size, i * 8 + 6, none⟩ (.int .i64 p.2.n)).setCell ⟨w.heap.size, i * 8 + 7, none⟩ (.slice p.2.a p.2.m p.2.c)).drew w.heap.size (some ⟨w.heap.size, 0, none⟩) m m ((prs es).take (i + 1) ++ List.replicate (m - (i + 1)) PE.z)) := by
        have h1 := OwnP.set8 HP.out i p
        rw [set_one _ p (by rw [List.length_take, HM.out.1]; omega) him] at h1
        have e : (prs es).take (i + 1) = (prs es).take i ++ [p] := by rw [List.take_add_one, hp]; rfl
        rw [← e] at h1
        exact OwnR.keep h1 (below_drewN _ 1)
      have HBn : Hid (Below w.heap.size w ((((((((wr.setCell ⟨w.heap.size, i * 8, none⟩ (.int .i64 p.1.k)).setCell ⟨w.heap.size, i * 8 + 1, none⟩ (.string p.1.s)).setCell ⟨w.heap.size, i * 8 + 2, none⟩ (.int .i64 p.1.n)).setCell ⟨w.heap.size, i * 8 + 3, none⟩ (.slice p.1.a p.1.m p.1.c)).setCell ⟨w.heap.size, i * 8 + 4, none⟩ (.int .i64 p.2.k)).setCell ⟨w.heap.size, i * 8 + 5, none⟩ (.string p.2.s)).setCell ⟨w.heap.size, i * 8 + 6, none⟩ (.int .i64 p.2.n)).setCell ⟨w.heap.size, i * 8 + 7, none⟩ (.slice p.2.a p.2.m p.2.c)).drew) := (HB.out.trans ((Stay.set8 (w := wr)).below (fun k hk => by simp at hk; omega) HB.out.size)).drew
      have hc0 := OwnP.len HP.out
      obtain ⟨q, hq'⟩ : ∃ q, ((prs es).take i ++ List.replicate (m - i) PE.z)[i]? = some q := ⟨_, List.getElem?_eq_getElem (by rw [hc0]; exact him)⟩
      obtain ⟨x0, x1, x2, x3, x4, x5, x6, x7⟩ := OwnP.cells HP.out hq'
      obtain ⟨⟨pk1, ps1, pn1, pa1, pm1, pc1⟩, ⟨pk2, ps2, pn2, pa2, pm2, pc2⟩⟩ := p
      simp only at a0 a1 a2 a3 b0 b1 b2 b3 HPn HBn
      clear hp hp1 hp2 hO hc0 hq' hf
      go_upto_region 4 with fail
      go_region
      all_goals
        go_wp2
        go_roundg (gk - 1)
        case measure => omega
        case rel => exact ⟨i + 1, by omega, by go_num, HPn, HBn⟩
    · have HPe : Hid (OwnP wr w.heap.size (some ⟨w.heap.size, 0, none⟩) m m (prs es)) := by
        have h1 := HP.out
        rw [show m - i = 0 by omega, List.replicate_zero, List.append_nil, List.take_of_length_le (by rw [HM.out.1]; omega)] at h1
        exact h1
      have HVr : Hid (Vps wr (fun k => F k ∧ k < w.heap.size) d (prs es) (prs ts)) := ((HV.out.mono (G := fun k => F k ∧ k < w.heap.size) (fun k hk hf => ⟨hf, hk⟩)).keep (fun k hk _ => HB.out.block k hk)).prs
      have HS := SortP_any d (fun k => F k ∧ k < w.heap.size) w.heap.size w.heap.size m m (prs es) (prs ts) wr HPe.out HVr.out (fun h => Nat.lt_irrefl _ h.2) (by omega)
      go_wp2_with fail
      refine HS.mono ?_
      rintro e w3 ⟨rfl, hs, ps, hP3, hV3⟩
      have HP3 : Hid (OwnP w3 w.heap.size (some ⟨w.heap.size, 0, none⟩) m m ps) := hP3
      have HV3 : Hid (Vps w F d ps (sortP (prs ts))) := ⟨hV3.len, fun j e t he ht => by
        have h1 := hV3.el j e t he ht
        have hk : ∀ k, k < wr.heap.size → F k ∧ k < w.heap.size → w.heap[k]? = wr.heap[k]? := fun k _ h => (HB.out.block k h.2).symm
        exact ⟨(h1.f.keep hk).mono (fun _ _ h => h.1), (h1.v.keep hk).mono (fun _ _ h => h.1)⟩⟩
      have HB3 : Hid (Below w.heap.size w w3) := HB.out.trans (hs.below (fun k hk => by simp at hk; omega) HB.out.size)
      have HO3 : Hid (OwnE w3 B (some ⟨g, 0, none⟩) n c es) := OwnR.kept HO.out (fun k hk => by cases hk; exact HB3.out.block _ HGB.out)
      have HLp : Hid (ps.length = m) := OwnP.len hP3
      clear hs hP3 hV3 HS HPe HVr HP
      go_wp2
      go_loopg [35] m (fun gk iv wr => ∃ i : Nat, i + gk = m ∧ iv = .int .i64 i ∧ Hid (OwnE wr B (some ⟨g, 0, none⟩) n c (unp (ps.take i) ++ es.drop (2 * i))) ∧ Hid (OwnP wr w.heap.size (some ⟨w.heap.size, 0, none⟩) m m ps) ∧ Hid (Stay w wr [g]))
      case atStart => exact ⟨0, by omega, rfl, HO3, HP3, Stay.of_below HB3.out _⟩
      case round =>
        obtain ⟨i, hi, rfl, HE, HQ, HT⟩ := hrel
        by_cases h8 : (i : Int) < m
        · obtain ⟨p, hp⟩ : ∃ p, ps[i]? = some p := ⟨_, List.getElem?_eq_getElem (by rw [HLp.out]; omega)⟩
          obtain ⟨x0, x1, x2, x3, x4, x5, x6, x7⟩ := OwnP.cells HQ.out hp
          obtain ⟨i2, hi2⟩ : ∃ i2, 2 * i = i2 := ⟨_, rfl⟩
          obtain ⟨i3, hi3⟩ : ∃ i3, i2 + 1 = i3 := ⟨_, rfl⟩
          have hj1 : i2 < n := by have := HM.out.2.1; omega
          have hj2 : i3 < n := by have := HM.out.2.1; omega
          obtain ⟨y1, hy1⟩ : ∃ y, es[i2]? = some y := ⟨_, List.getElem?_eq_getElem (by rw [HM.out.2.2.1]; omega)⟩
          obtain ⟨y2, hy2⟩ : ∃ y, es[i2 + 1]? = some y := ⟨_, List.getElem?_eq_getElem (by rw [HM.out.2.2.1]; omega)⟩
          have HU : Hid ((unp (ps.take i)).length = i2) := by show _ = _; rw [unp_len, List.length_take, HLp.out]; omega
          obtain ⟨w5, hw5⟩ : ∃ w5, wr.alloc (.cells #[.int .i64 p.1.k, .string p.1.s, .int .i64 p.1.n, .slice p.1.a p.1.m p.1.c, .int .i64 p.2.k, .string p.2.s, .int .i64 p.2.n, .slice p.2.a p.2.m p.2.c] 66) = w5 := ⟨_, rfl⟩
          have hb5 : Below wr.heap.size wr w5 := by rw [← hw5]; exact alloc_below wr _
          have hE5 : OwnE w5 B (some ⟨g, 0, none⟩) n c (unp (ps.take i) ++ es.drop i2) := by have := OwnR.keep HE.out hb5; rw [hi2] at this; exact this
          have hblk : w5.heap[wr.heap.size]? = some (.cells #[.int .i64 p.1.k, .string p.1.s, .int .i64 p.1.n, .slice p.1.a p.1.m p.1.c, .int .i64 p.2.k, .string p.2.s, .int .i64 p.2.n, .slice p.2.a p.2.m p.2.c] 66 (0, 0)) := by rw [← hw5]; exact heap_alloc_new wr _
          have z0 : w5.cell? ⟨wr.heap.size, 0, none⟩ = some (.int .i64 p.1.k) := by simp only [World.cell?, hblk]; rfl
          have z1 : w5.cell? ⟨wr.heap.size, 1, none⟩ = some (.string p.1.s) := by simp only [World.cell?, hblk]; rfl
          have z2 : w5.cell? ⟨wr.heap.size, 2, none⟩ = some (.int .i64 p.1.n) := by simp only [World.cell?, hblk]; rfl
          have z3 : w5.cell? ⟨wr.heap.size, 3, none⟩ = some (.slice p.1.a p.1.m p.1.c) := by simp only [World.cell?, hblk]; rfl
          have z4 : w5.cell? ⟨wr.heap.size, 4, none⟩ = some (.int .i64 p.2.k) := by simp only [World.cell?, hblk]; rfl
          have z5 : w5.cell? ⟨wr.heap.size, 5, none⟩ = some (.string p.2.s) := by simp only [World.cell?, hblk]; rfl
          have z6 : w5.cell? ⟨wr.heap.size, 6, none⟩ = some (.int .i64 p.2.n) := by simp only [World.cell?, hblk]; rfl
          have z7 : w5.cell? ⟨wr.heap.size, 7, none⟩ = some (.slice p.2.a p.2.m p.2.c) := by simp only [World.cell?, hblk]; rfl
          have hgl : g < wr.heap.size := (OwnR.lt HE.out rfl).2.1
          have hne1 : ¬ g = wr.heap.size := by omega
          have hne2 : ¬ wr.heap.size = g := by omega
          have hel : ∀ j y, (unp (ps.take i) ++ es.drop i2)[j]? = some y → _ := fun j y hy => OwnE.cells hE5 hy
          obtain ⟨a0, a1, a2, a3⟩ := hel i2 y1 (by rw [List.getElem?_append_right (by rw [HU.out]; exact Nat.le_refl _), HU.out, List.getElem?_drop]; simpa using hy1)
          obtain ⟨b0, b1, b2, b3⟩ := hel i3 y2 (by rw [List.getElem?_append_right (by rw [HU.out]; omega), HU.out, List.getElem?_drop, show i2 + (i3 - i2) = i2 + 1 by omega]; exact hy2)
          have hf := fun o => OwnR.fz hE5 o
          have f0 := hf (i2 * 4)
          have f1 := hf (i2 * 4 + 1)
          have f2 := hf (i2 * 4 + 2)
          have f3 := hf (i2 * 4 + 3)
          have fy0 := hf (i3 * 4)
          have fy1 := hf (i3 * 4 + 1)
          have fy2 := hf (i3 * 4 + 2)
          have fy3 := hf (i3 * 4 + 3)
          have hw1 : IntKind.i64.wrap (2 * (i : Int)) = (i2 : Int) := by rw [IntKind.wrap_i64]; omega
          have hw2 : IntKind.i64.wrap ((i2 : Int) + 1) = (i3 : Int) := by rw [IntKind.wrap_i64]; omega
          have hk1 : (i2 : Int) < n := by omega
          have hk2 : (i3 : Int) < n := by omega
          have him : i < m := by omega
          have hi6 : i ≤ 6 := by omega
          have HEn : Hid (OwnE ((((((((w5.setCell ⟨g, i2 * 4, none⟩ (.int .i64 p.1.k)).setCell ⟨g, i2 * 4 + 1, none⟩ (.string p.1.s)).setCell ⟨g, i2 * 4 + 2, none⟩ (.int .i64 p.1.n)).setCell ⟨g, i2 * 4 + 3, none⟩ (.slice p.1.a p.1.m p.1.c)).setCell ⟨g, i3 * 4, none⟩ (.int .i64 p.2.k)).setCell ⟨g, i3 * 4 + 1, none⟩ (.string p.2.s)).setCell ⟨g, i3 * 4 + 2, none⟩ (.int .i64 p.2.n)).setCell ⟨g, i3 * 4 + 3, none⟩ (.slice p.2.a p.2.m p.2.c)).drew B (some ⟨g, 0, none⟩) n c (unp (ps.take (i + 1)) ++ es.drop (2 * (i + 1)))) := by
            have h1 := OwnE.set4 (OwnE.set4 hE5 i2 p.1) i3 p.2
            rw [← hi3, set_two HU.out hy1 hy2, ← unp_take ps i p hp, show i2 + 2 = 2 * (i + 1) by omega, hi3] at h1
            exact OwnR.keep h1 (below_drewN _ 1)
          have HTn : Hid (Stay w ((((((((w5.setCell ⟨g, i2 * 4, none⟩ (.int .i64 p.1.k)).setCell ⟨g, i2 * 4 + 1, none⟩ (.string p.1.s)).setCell ⟨g, i2 * 4 + 2, none⟩ (.int .i64 p.1.n)).setCell ⟨g, i2 * 4 + 3, none⟩ (.slice p.1.a p.1.m p.1.c)).setCell ⟨g, i3 * 4, none⟩ (.int .i64 p.2.k)).setCell ⟨g, i3 * 4 + 1, none⟩ (.string p.2.s)).setCell ⟨g, i3 * 4 + 2, none⟩ (.int .i64 p.2.n)).setCell ⟨g, i3 * 4 + 3, none⟩ (.slice p.2.a p.2.m p.2.c)).drew [g]) := (((HT.out.trans (Stay.of_below hb5 [g]) (fun _ h => .inl h)).trans Stay.set4 (fun _ h => .inl h)).trans Stay.set4 (fun _ h => .inl h)).trans (Stay.of_below (below_drewN _ 1) [g]) (fun _ h => .inl h)
          have HQn : Hid (OwnP ((((((((w5.setCell ⟨g, i2 * 4, none⟩ (.int .i64 p.1.k)).setCell ⟨g, i2 * 4 + 1, none⟩ (.string p.1.s)).setCell ⟨g, i2 * 4 + 2, none⟩ (.int .i64 p.1.n)).setCell ⟨g, i2 * 4 + 3, none⟩ (.slice p.1.a p.1.m p.1.c)).setCell ⟨g, i3 * 4, none⟩ (.int .i64 p.2.k)).setCell ⟨g, i3 * 4 + 1, none⟩ (.string p.2.s)).setCell ⟨g, i3 * 4 + 2, none⟩ (.int .i64 p.2.n)).setCell ⟨g, i3 * 4 + 3, none⟩ (.slice p.2.a p.2.m p.2.c)).drew w.heap.size (some ⟨w.heap.size, 0, none⟩) m m ps) := by
            have hl := (OwnR.lt HQ.out rfl).2.1
            refine OwnR.kept (OwnR.keep HQ.out hb5) (fun k hk => ?_)
            cases hk
            exact ((((Stay.set4 (w := w5)).trans Stay.set4 (fun _ h => .inl h)).trans (Stay.of_below (below_drewN _ 1) [g]) (fun _ h => .inl h)).block _ (Nat.lt_of_lt_of_le hl hb5.size) (by have := HGB.out; simp; omega))
          obtain ⟨⟨pk1, ps1, pn1, pa1, pm1, pc1⟩, ⟨pk2, ps2, pn2, pa2, pm2, pc2⟩⟩ := p
          simp only at x0 x1 x2 x3 x4 x5 x6 x7 hw5 z0 z1 z2 z3 z4 z5 z6 z7 HEn HTn HQn
          clear hp hy1 hy2 hE5 hel hf hblk hb5 hgl HE HQ HT
          go_upto_region 10 with fail
          go_region
          all_goals
            go_wp2
            go_roundg (gk - 1)
            case measure => omega
            case rel => exact ⟨i + 1, by omega, by go_num, HEn, HQn, HTn⟩
        · have HEe : Hid (OwnE wr B (some ⟨g, 0, none⟩) n c (unp ps ++ odd es)) := by
            have h1 := HE.out
            rw [List.take_of_length_le (by rw [HLp.out]; omega), show 2 * i = 2 * (es.length / 2) by have := HM.out; omega, ← odd_drop] at h1
            exact h1
          have HVe : Hid (Vls w F d (unp ps ++ odd es) (unp (sortP (prs ts)) ++ odd ts)) := HV3.out.unp.append HV.out.odd
          go_wp2
          go_end0
          exact ⟨rfl, HT.out, _, HEe.out, HVe.out⟩
end Go.Proofs.YtiamgnfbgiognaaGreatDoor

/-
  The document's own dict: the walk of split.
-/
import Derived.Test.YtejnmikbbnckeaaRf4
namespace Go.Proofs.Ytejnmikbbnckeaa
open Go.RowKit Go.PlainAid

theorem Try.infoR : (Try.prog.info? 65).map (fun i => (i.zero, i.size, i.bytes)) = some (some (.agg #[.int .i64 0, .int .u64 0, .slice none 0 0]), 3, 40) := by kernel_rfl
theorem eltR : Elt 66 65 3 40 := elt_of Try.underlying66 Try.infoR rfl (by decide)
theorem belowA {w wy w4 : World} {A an ac : Nat} {aa : Option Addr} {z : List ByteArray} {v : Value} (hB : Below w.heap.size w wy) (hO : OwnS wy w.heap.size aa an ac z) (hg : wy.grownBy w4 (aa.map (·.block))) (hA : w.heap.size ≤ A) : Below w.heap.size w (w4.setCell ⟨A, 2, none⟩ v) :=
  (hB.trans (OwnR.below hO hg hB.size)).trans ((Stay.set (q := A)).below (by intro i hi; simp at hi; omega) (Nat.le_trans hB.size (OwnR.below hO hg hB.size).size))
/-- Ahead of the parts' own turn: the depth is what it will be. -/
structure Dp (w wx : World) (B r x G pr cap n : Nat) (ps : List Rp) : Prop where
  blk : wx.heap[r]? = some (.cells #[.int .u64 (x : Nat), .int .i64 (G : Nat), .slice (some ⟨pr, 0, none⟩) n cap] 68 (0, 0))
  row : OwnR wx B 65 3 (some ⟨pr, 0, none⟩) n cap (rcells ps)
  key : ∀ p ∈ ps, OwnS wx B p.a p.n p.cap p.ks
  mv : Mv rtag w wx
  bel : Below B w wx
theorem mv_set {w w1 : World} {q o : Nat} {v : Value} {cs : Array Value} {t : TypeId} (h : Mv rtag w w1) (hq : w1.heap[q]? = some (.cells cs t (0, 0))) (ht : rtag t = true) : Mv rtag w (w1.setCell ⟨q, o, none⟩ v) := by
  refine h.trans ⟨rfl, rfl, rfl, by simp [World.setCell], fun k cs' t' hk ht' => Below.heap_setCell _ _ _ _ ?_⟩
  simp only [ne_eq]
  rintro rfl
  rw [hq] at hk
  simp at hk
  rw [hk.2] at ht
  rw [ht] at ht'
  cases ht'

theorem Mv.imp {p q : TypeId → Bool} {w w' : World} (h : Mv p w w') (hpq : ∀ t, q t = false → p t = false) : Mv q w w' := ⟨h.os, h.tape, h.output, h.size, fun k cs t hk ht => h.block k cs t hk (hpq t ht)⟩
theorem zo_perm (x l : Nat) (ks : List ByteArray) : (zks x l ks ++ oks x l ks).Perm ks := by
  have h := List.filter_append_perm (fun k => decide (hsh x k / 2 ^ l % 2 = 0)) ks
  have e : (ks.filter fun k => !decide (hsh x k / 2 ^ l % 2 = 0)) = oks x l ks := by
    unfold oks
    congr 1
    funext k
    rcases Nat.mod_two_eq_zero_or_one (hsh x k / 2 ^ l) with e | e <;> simp [e]
  rw [e] at h
  exact h
theorem RefD.split {w w' : World} {B r x g pr cap pr' cap' : Nat} {ra rc : List Rp} {p p0 p1 : Rp} (h : RefD w B r x g pr cap (ra ++ p :: rc)) (hl : p.l < 16) (e0 : p0.pt = (p.l + 1, p.q)) (e1 : p1.pt = (p.l + 1, p.q + 2 ^ p.l)) (k0 : p0.ks = zks x p.l p.ks) (k1 : p1.ks = oks x p.l p.ks)
    (blk : w'.heap[r]? = some (.cells #[.int .u64 (x : Nat), .int .i64 ((max g (p.l + 1) : Nat) : Int), .slice (some ⟨pr', 0, none⟩) (ra ++ p0 :: (rc ++ [p1])).length cap'] 68 (0, 0))) (row : OwnR w' B 65 3 (some ⟨pr', 0, none⟩) (ra ++ p0 :: (rc ++ [p1])).length cap' (rcells (ra ++ p0 :: (rc ++ [p1])))) (key : ∀ p ∈ ra ++ p0 :: (rc ++ [p1]), OwnS w' B p.a p.n p.cap p.ks) :
    RefD w' B r x (max g (p.l + 1)) pr' cap' (ra ++ p0 :: (rc ++ [p1])) := by
  have hq : p.q < 2 ^ p.l := (h.shp.lt p.pt (by unfold rsh; simp)).1
  have hs : Shp (max g (p.l + 1)) (rsh (ra ++ p0 :: (rc ++ [p1]))) := by
    have := h.shp
    unfold rsh at this ⊢
    rw [List.map_append, List.map_cons] at this
    rw [List.map_append, List.map_cons, List.map_append, e0]
    show Shp _ (_ ++ _ :: (_ ++ [p1.pt]))
    rw [e1]
    exact this.split hl
  have hp : (rks (ra ++ p0 :: (rc ++ [p1]))).Perm (rks (ra ++ p :: rc)) := by
    rw [rks_append, rks_append, rks_cons, rks_cons, rks_append, k0]
    have e2 : rks [p1] = oks x p.l p.ks := by rw [rks_cons, k1]; exact List.append_nil _
    rw [e2]
    refine List.Perm.append_left _ ?_
    refine (List.Perm.append_left _ List.perm_append_comm).trans ?_
    rw [← List.append_assoc]
    exact (zo_perm x p.l p.ks).append_right _
  refine ⟨blk, row, key, h.low, h.seed, hs, ?_, hp.nodup_iff.2 h.nod, fun k hk => h.siz k (hp.mem_iff.1 hk), by rw [hp.length_eq]; exact h.le, by have := hs.few; unfold rsh at this; rw [List.length_map] at this; exact this⟩
  intro u hu k hk
  simp only [List.mem_append, List.mem_cons, List.not_mem_nil, or_false] at hu
  rcases hu with hu | rfl | hu | rfl
  · exact h.own u (by simp [hu]) k hk
  · rw [k0] at hk
    have h1 := List.mem_filter.1 hk
    rw [e0, isIn_zero hq]
    exact ⟨h.own p (by simp) k h1.1, of_decide_eq_true h1.2⟩
  · exact h.own u (by simp [hu]) k hk
  · rw [k1] at hk
    have h1 := List.mem_filter.1 hk
    rw [e1, isIn_one]
    exact ⟨h.own p (by simp) k h1.1, of_decide_eq_true h1.2⟩

set_option maxRecDepth 100000 in
set_option maxHeartbeats 8000000 in
theorem rsplit_any (B r x g pr cap : Nat) (ra rc : List Rp) (p : Rp) (w : World) (hR : RefD w B r x g pr cap (ra ++ p :: rc)) (hl : p.l < 16) :
    Calls Try.prog 37 #[ptr r, .int .i64 (ra.length : Nat)] w fun e w' => e = .returned (.tuple #[]) ∧ ∃ pr' cap' p0 p1, RefD w' B r x (max g (p.l + 1)) pr' cap' (ra ++ p0 :: (rc ++ [p1])) ∧ p0.pt = (p.l + 1, p.q) ∧ p1.pt = (p.l + 1, p.q + 2 ^ p.l) ∧ (p0.ks ++ p1.ks).Perm p.ks ∧ Below B w w' ∧ Mv rtag w w' := by
  obtain ⟨l, q, paa, pn, pcc, ks⟩ := p
  simp only [] at hl
  show Calls _ _ _ _ fun e w' => e = .returned (.tuple #[]) ∧ ∃ pr' cap' p0 p1, RefD w' B r x (max g (l + 1)) pr' cap' (ra ++ p0 :: (rc ++ [p1])) ∧ p0.pt = (l + 1, q) ∧ p1.pt = (l + 1, q + 2 ^ l) ∧ (p0.ks ++ p1.ks).Perm ks ∧ Below B w w' ∧ Mv rtag w w'
  have HR : Hid (RefD w B r x g pr cap (ra ++ ⟨l, q, paa, pn, pcc, ks⟩ :: rc)) := hR
  have hfew := hR.few
  have hlen : ra.length < (ra ++ (⟨l, q, paa, pn, pcc, ks⟩ : Rp) :: rc).length := by simp
  obtain ⟨c0, c1, c2⟩ := hR.at (j := ra.length) (p := ⟨l, q, paa, pn, pcc, ks⟩) get_mid
  simp only [] at c0 c1 c2
  have hcp := hR.cpar
  have hlt := hR.shp.lt (l, q) (by unfold rsh; simp [Rp.pt])
  simp only [] at hlt
  have HX : Hid (∀ w', Below w.heap.size w w' → w'.cell? ⟨r, 0, none⟩ = some (.int .u64 (x : Nat)) ∧ w'.cell? ⟨r, 1, none⟩ = some (.int .i64 (g : Nat)) ∧ w'.cell? ⟨r, 2, none⟩ = some (.slice (some ⟨pr, 0, none⟩) (ra ++ (⟨l, q, paa, pn, pcc, ks⟩ : Rp) :: rc).length cap)) := fun w' hb => ⟨(hR.keep hb).cseed, (hR.keep hb).cdep, (hR.keep hb).cpar⟩
  have HKy : Hid (OwnS w B paa pn pcc ks) := hR.key ⟨l, q, paa, pn, pcc, ks⟩ (by simp)
  have hkl : ks.length = pn := OwnS.len HKy.out
  have HKl : Hid (ks.length = pn) := hkl
  have hkle : ks.length ≤ 1000000 := hR.lep
  have HSz : Hid (∀ k ∈ ks, k.size ≤ maxLen) := fun k hk => hR.siz k (by rw [rks_append, rks_cons]; simp [hk])
  have hx := hR.seed
  have hor := or_pow q l hlt.1 (by omega)
  have hwp := wrap_pow l (by omega)
  have hQle := pow_le_16 (k := l) (by omega)
  have hgle := hR.shp.le
  have hpn : pn ≤ 1000000 := by omega
  generalize hn : (ra ++ (⟨l, q, paa, pn, pcc, ks⟩ : Rp) :: rc).length = n at hcp hfew hlen HX
  have HNn : Hid ((ra ++ (⟨l, q, paa, pn, pcc, ks⟩ : Rp) :: rc).length = n) := hn
  generalize hm : ra.length = m at c0 c1 c2 hlen ⊢
  have HMm : Hid (ra.length = m) := hm
  have hmn : (m : Int) < n := by omega
  obtain ⟨Q, hQ⟩ : ∃ Q, 2 ^ l = Q := ⟨_, rfl⟩
  have HQ : Hid (2 ^ l = Q) := hQ
  rw [hQ] at hor hwp hQle hlt
  have hq65 : q < 65536 := by omega
  obtain ⟨w3, hw3⟩ : ∃ w3, (((w.alloc (.cells #[.int .i64 (l : Nat), .int .u64 (q : Nat), .slice paa pn pcc] 65)).alloc (.cells #[.int .i64 ((l : Int) + 1), .int .u64 (q : Nat), .slice none 0 0] 65)).alloc (.cells #[.int .i64 ((l : Int) + 1), .int .u64 ((q : Int) + (Q : Int)), .slice none 0 0] 65)) = w3 := ⟨_, rfl⟩
  have HW3 : Hid (_ = _) := hw3
  obtain ⟨P, hP⟩ : ∃ P, w.heap.size = P := ⟨_, rfl⟩
  obtain ⟨A, hA⟩ : ∃ A, w.heap.size + 1 = A := ⟨_, rfl⟩
  obtain ⟨C, hC⟩ : ∃ C, w.heap.size + 1 + 1 = C := ⟨_, rfl⟩
  have HPe : Hid (_ = _) := hP
  have HAe : Hid (_ = _) := hA
  have HCe : Hid (_ = _) := hC
  have HB3 : Hid (Below w.heap.size w w3) := by show Below _ _ _; rw [← hw3]; exact (step_below (step_below (alloc_below w _ : Hid _) (alloc_below _ _)) (alloc_below _ _)).out
  have HH3 : Hid (Hv w3 w.heap.size P A C l q ⟨l, q, paa, pn, pcc, ks⟩ none 0 0 (zks x l (ks.take 0)) none 0 0 (oks x l (ks.take 0))) := by
    show Hv _ _ _ _ _ _ _ _ _ _ _ _ _ _ _ _
    rw [← hw3]
    obtain ⟨v1, hv1⟩ : ∃ v1, w.alloc (.cells #[.int .i64 (l : Nat), .int .u64 (q : Nat), .slice paa pn pcc] 65) = v1 := ⟨_, rfl⟩
    have i1 : isPart v1 P l q paa pn pcc := by unfold isPart; rw [← hv1, ← hP]; exact heap_alloc_new w _
    have z1 : v1.heap.size = A := by rw [← hv1, ← hA]; exact size_alloc w _
    rw [hv1]
    obtain ⟨v2, hv2⟩ : ∃ v2, v1.alloc (.cells #[.int .i64 ((l : Int) + 1), .int .u64 (q : Nat), .slice none 0 0] 65) = v2 := ⟨_, rfl⟩
    have i2 : isPart v2 A (l + 1) q none 0 0 := by unfold isPart; rw [← hv2, ← z1]; exact heap_alloc_new v1 _
    have z2 : v2.heap.size = C := by rw [← hv2, ← hC, hA, ← z1]; exact size_alloc v1 _
    have y2 : Below v1.heap.size v1 v2 := by rw [← hv2]; exact alloc_below v1 _
    rw [hv2]
    obtain ⟨v3, hv3⟩ : ∃ v3, v2.alloc (.cells #[.int .i64 ((l : Int) + 1), .int .u64 ((q : Int) + (Q : Int)), .slice none 0 0] 65) = v3 := ⟨_, rfl⟩
    have i3 : isPart v3 C (l + 1) (q + 2 ^ l) none 0 0 := by unfold isPart; rw [hQ, ← hv3, ← z2]; exact heap_alloc_new v2 _
    have y3 : Below v2.heap.size v2 v3 := by rw [← hv3]; exact alloc_below v2 _
    rw [hv3]
    exact ⟨(i1.keep y2).keep y3, i2.keep y3, i3, OwnR.nil _ _ _ _, OwnR.nil _ _ _ _, fun k hk => by simp at hk, by omega, by omega, by omega, by omega, by omega, by omega⟩
  clear hR hm hn hQ hkl hkle hw3 hP hA hC
  go_enter Try.func37, Try.ntmps37
  go_upto_region 3 with fail
  rw [HW3.out, HCe.out, HAe.out, HPe.out]
  clear HW3 c0 c1 c2 hcp hor hwp hlt
  go_wp2
  go_loopg [7] pn (fun n' kv wr => ∃ (k an ac bn bc : Nat) (aa ba : Option Addr), k + n' = pn ∧ kv = .int .i64 k ∧ Hid (Hv wr w.heap.size P A C l q ⟨l, q, paa, pn, pcc, ks⟩ aa an ac (zks x l (ks.take k)) ba bn bc (oks x l (ks.take k))) ∧ Hid (Below w.heap.size w wr))
  case atStart => exact ⟨0, 0, 0, 0, 0, none, none, by omega, rfl, HH3, HB3⟩
  case round =>
    clear HH3 HB3
    obtain ⟨k, an, ac, bn, bc, aa, ba, hk, rfl, HH, HB⟩ := hrel
    obtain ⟨d0, d1, d2, -⟩ := HH.out.pp.cell
    simp only [] at d0 d1 d2
    obtain ⟨x0, x1, x2⟩ := HX.out wr HB.out
    by_cases h8 : (k : Int) < pn
    · obtain ⟨ky, hky, hkm⟩ := get_of_lt (l := ks) (i := k) (by have := HKl.out; omega)
      obtain ⟨gr, hgr, hcell0⟩ := OwnS.cell (OwnR.keep HKy.out HB.out) (j := k) (by omega)
      rw [List.getD_eq_getElem?_getD, hky] at hcell0
      simp only [Option.getD_some] at hcell0
      subst hgr
      have hOf := fun w => refOf_hsh x ky w (HSz.out ky hkm) hx
      have hand := and_one (hsh x ky) l (hsh_lt x ky)
      have HZs : Hid (zks x l (ks.take (k + 1)) = zks x l (ks.take k) ++ (if hsh x ky / 2 ^ l % 2 = 0 then [ky] else [])) := by
        show _ = _
        unfold zks
        rw [take_more hky, List.filter_append]
        congr 1
        by_cases e : hsh x ky / 2 ^ l % 2 = 0
        · rw [if_pos e, List.filter_cons_of_pos (by simpa using e)]; rfl
        · rw [if_neg e, List.filter_cons_of_neg (by simpa using e)]; rfl
      have HOs : Hid (oks x l (ks.take (k + 1)) = oks x l (ks.take k) ++ (if hsh x ky / 2 ^ l % 2 = 1 then [ky] else [])) := by
        show _ = _
        unfold oks
        rw [take_more hky, List.filter_append]
        congr 1
        by_cases e : hsh x ky / 2 ^ l % 2 = 1
        · rw [if_pos e, List.filter_cons_of_pos (by simpa using e)]; rfl
        · rw [if_neg e, List.filter_cons_of_neg (by simpa using e)]; rfl
      have hal : an ≤ k := by
        have h1 := OwnS.len HH.out.oa
        have h2 : (zks x l (ks.take k)).length ≤ (ks.take k).length := List.length_filter_le _ _
        rw [List.length_take] at h2
        omega
      have hbl : bn ≤ k := by
        have h1 := OwnS.len HH.out.ob
        have h2 : (oks x l (ks.take k)).length ≤ (ks.take k).length := List.length_filter_le _ _
        rw [List.length_take] at h2
        omega
      have hbit := Nat.mod_two_eq_zero_or_one (hsh x ky / 2 ^ l)
      generalize hsh x ky / 2 ^ l % 2 = bit at hand HZs HOs hbit
      generalize hsh x ky = hh at hOf hand
      clear hky hkm x1 x2
      rcases hbit with rfl | rfl
      · replace hand : bits .and .u64 ((hh : Int) / 2 ^ l) 1 = 0 := hand
        rw [if_pos rfl] at HZs
        rw [if_neg (by decide), List.append_nil] at HOs
        go_wp2
        go_quiet ((go_at_call 22; with_reducible exact Calls.quiet_of_same (hOf _)))
        obtain ⟨wz, hwz⟩ : ∃ wz, wr.drewN nq = wz := ⟨_, rfl⟩
        have hBz : Below wr.heap.size wr wz := by rw [← hwz]; exact below_drewN wr nq
        rw [hwz]
        have HHz := HH.out.keep hBz
        have HBz := step_below HB hBz
        obtain ⟨d0, d1, d2, -⟩ := HHz.pp.cell
        simp only [] at d0 d1 d2
        obtain ⟨e0, e1, e2, e3⟩ := HHz.pa.cell
        have hcell : wz.cell? ⟨gr, k, none⟩ = some (.string ky) := by rw [hBz.cell (p := ⟨gr, k, none⟩) (World.block_lt_of_cell? _ _ hcell0)]; exact hcell0
        obtain ⟨wy, hwy⟩ : ∃ wy, (wz.alloc (.cells #[.string ky] 9)).drew = wy := ⟨_, rfl⟩
        have hBy : Below wz.heap.size wz wy := by rw [← hwy]; exact (step_below (alloc_below wz _ : Hid _) (below_drewN _ 1)).out
        have HHy : Hid (Hv wy w.heap.size P A C l q ⟨l, q, some ⟨gr, 0, none⟩, pn, pcc, ks⟩ aa an ac (zks x l (ks.take k)) ba bn bc (oks x l (ks.take k))) := HHz.keep hBy
        have HBy := step_below HBz hBy
        have HNw : Hid (∀ j u, ([Value.string ky])[j]? = some u → wy.cell? ((⟨wz.heap.size, 0, none⟩ : Addr).add j) = some u) := by
          intro j u hu
          cases j with
          | zero => rw [add_flat, ← hwy, ← hu]; show (wz.alloc _).cell? _ = _; simp only [World.cell?, heap_alloc_new]; rfl
          | succ j => simp at hu
        have HBw : Hid (w.heap.size ≤ wy.heap.size) := HBy.out.size
        have HSc : Hid (∀ w2, wy.grownBy w2 (aa.map (·.block)) → w2.cell? ⟨A, 2, none⟩ = some (.slice aa an ac) ∧ w2.frozen? ⟨A, 2, none⟩ = false) := fun w2 hg => ⟨(HHy.out.pa.grown HHy.out.oa hg).cell.2.2.1, (HHy.out.pa.grown HHy.out.oa hg).cell.2.2.2⟩
        obtain ⟨-, -, g2, -⟩ := HHy.out.pa.cell
        clear hwz hBz HHz HBz hBy HH HB hcell0 hOf
        go_wp2_with fail
        go_region_law (refine step_append_r rfl (.tmp 56) (.tmp 62) rfl eltS w.heap.size rfl HHy.out.oa [.string ky] rfl rfl HNw.out (by simp [Value.oneCell']) (by decide) (by omega) (by unfold maxLen; omega) HBw.out ?_; intro a4 n4 c4 w4 hn4 HO4 HG4 HW4; obtain ⟨hc4, hf4⟩ := HSc.out w4 HG4.out)
        all_goals
          have HH5 : Hid (Hv (w4.setCell ⟨A, 2, none⟩ (.slice a4 (an + 1) c4)) w.heap.size P A C l q ⟨l, q, some ⟨gr, 0, none⟩, pn, pcc, ks⟩ a4 (an + 1) c4 (zks x l (ks.take (k + 1))) ba bn bc (oks x l (ks.take (k + 1)))) := by
            have := HHy.out.first HO4.out HG4.out HW4.out
            rw [hn4] at this
            show Hv _ _ _ _ _ _ _ _ _ _ _ _ _ _ _ _
            rw [HZs.out, HOs.out]
            exact this
          have HB5 : Hid (Below w.heap.size w (w4.setCell ⟨A, 2, none⟩ (.slice a4 (an + 1) c4))) := belowA HBy.out HHy.out.oa HG4.out HHy.out.ne.2.2.2.2.1
          generalize w4.setCell ⟨A, 2, none⟩ (.slice a4 (an + 1) c4) = w5 at HH5 HB5 ⊢
          clear HO4 HG4 HW4 hc4 hf4 HHy HBy HSc HNw hwy g2 hcell d0 d1 d2 e0 e1 e2 e3 hand x0
          go_wp2
          go_roundg (gk - 1)
          case measure => omega
          case rel => exact ⟨k + 1, an + 1, c4, bn, bc, a4, ba, by omega, by go_num, HH5, HB5⟩
      · replace hand : bits .and .u64 ((hh : Int) / 2 ^ l) 1 = 1 := hand
        rw [if_neg (by decide), List.append_nil] at HZs
        rw [if_pos rfl] at HOs
        go_wp2
        go_quiet ((go_at_call 22; with_reducible exact Calls.quiet_of_same (hOf _)))
        obtain ⟨wz, hwz⟩ : ∃ wz, wr.drewN nq = wz := ⟨_, rfl⟩
        have hBz : Below wr.heap.size wr wz := by rw [← hwz]; exact below_drewN wr nq
        rw [hwz]
        have HHz := HH.out.keep hBz
        have HBz := step_below HB hBz
        obtain ⟨d0, d1, d2, -⟩ := HHz.pp.cell
        simp only [] at d0 d1 d2
        obtain ⟨e0, e1, e2, e3⟩ := HHz.pb.cell
        have hcell : wz.cell? ⟨gr, k, none⟩ = some (.string ky) := by rw [hBz.cell (p := ⟨gr, k, none⟩) (World.block_lt_of_cell? _ _ hcell0)]; exact hcell0
        obtain ⟨wy, hwy⟩ : ∃ wy, (wz.alloc (.cells #[.string ky] 9)).drew = wy := ⟨_, rfl⟩
        have hBy : Below wz.heap.size wz wy := by rw [← hwy]; exact (step_below (alloc_below wz _ : Hid _) (below_drewN _ 1)).out
        have HHy : Hid (Hv wy w.heap.size P A C l q ⟨l, q, some ⟨gr, 0, none⟩, pn, pcc, ks⟩ aa an ac (zks x l (ks.take k)) ba bn bc (oks x l (ks.take k))) := HHz.keep hBy
        have HBy := step_below HBz hBy
        have HNw : Hid (∀ j u, ([Value.string ky])[j]? = some u → wy.cell? ((⟨wz.heap.size, 0, none⟩ : Addr).add j) = some u) := by
          intro j u hu
          cases j with
          | zero => rw [add_flat, ← hwy, ← hu]; show (wz.alloc _).cell? _ = _; simp only [World.cell?, heap_alloc_new]; rfl
          | succ j => simp at hu
        have HBw : Hid (w.heap.size ≤ wy.heap.size) := HBy.out.size
        have HSc : Hid (∀ w2, wy.grownBy w2 (ba.map (·.block)) → w2.cell? ⟨C, 2, none⟩ = some (.slice ba bn bc) ∧ w2.frozen? ⟨C, 2, none⟩ = false) := fun w2 hg => ⟨(HHy.out.pb.grown HHy.out.ob hg).cell.2.2.1, (HHy.out.pb.grown HHy.out.ob hg).cell.2.2.2⟩
        obtain ⟨-, -, g2, -⟩ := HHy.out.pb.cell
        clear hwz hBz HHz HBz hBy HH HB hcell0 hOf
        go_wp2_with fail
        go_region_law (refine step_append_r rfl (.tmp 66) (.tmp 72) rfl eltS w.heap.size rfl HHy.out.ob [.string ky] rfl rfl HNw.out (by simp [Value.oneCell']) (by decide) (by omega) (by unfold maxLen; omega) HBw.out ?_; intro a4 n4 c4 w4 hn4 HO4 HG4 HW4; obtain ⟨hc4, hf4⟩ := HSc.out w4 HG4.out)
        all_goals
          have HH5 : Hid (Hv (w4.setCell ⟨C, 2, none⟩ (.slice a4 (bn + 1) c4)) w.heap.size P A C l q ⟨l, q, some ⟨gr, 0, none⟩, pn, pcc, ks⟩ aa an ac (zks x l (ks.take (k + 1))) a4 (bn + 1) c4 (oks x l (ks.take (k + 1)))) := by
            have := HHy.out.second HO4.out HG4.out HW4.out
            rw [hn4] at this
            show Hv _ _ _ _ _ _ _ _ _ _ _ _ _ _ _ _
            rw [HZs.out, HOs.out]
            exact this
          have HB5 : Hid (Below w.heap.size w (w4.setCell ⟨C, 2, none⟩ (.slice a4 (bn + 1) c4))) := belowA HBy.out HHy.out.ob HG4.out HHy.out.ne.2.2.2.2.2
          generalize w4.setCell ⟨C, 2, none⟩ (.slice a4 (bn + 1) c4) = w5 at HH5 HB5 ⊢
          clear HO4 HG4 HW4 hc4 hf4 HHy HBy HSc HNw hwy g2 hcell d0 d1 d2 e0 e1 e2 e3 hand x0
          go_wp2
          go_roundg (gk - 1)
          case measure => omega
          case rel => exact ⟨k + 1, an, ac, bn + 1, c4, aa, a4, by omega, by go_num, HH5, HB5⟩
    · have hkk : ks.take k = ks := List.take_of_length_le (by have := HKl.out; omega)
      rw [hkk] at HH
      obtain ⟨e0, e1, e2, -⟩ := HH.out.pa.cell
      have HRr : Hid (RefD wr B r x g pr cap (ra ++ ⟨l, q, paa, pn, pcc, ks⟩ :: rc)) := HR.out.keep HB.out
      have HBB : Hid (B ≤ w.heap.size) := by have h1 := HR.out.low; have h2 := HR.out.lt; show _ ≤ _; omega
      clear hkk x0
      go_wp2
      go_quiet (fail)
      obtain ⟨wz, hwz⟩ : ∃ wz, wr.drewN nq = wz := ⟨_, rfl⟩
      have hBz : Below wr.heap.size wr wz := by rw [← hwz]; exact below_drewN wr nq
      rw [hwz]
      have HHz : Hid (Hv wz w.heap.size P A C l q ⟨l, q, paa, pn, pcc, ks⟩ aa an ac (zks x l ks) ba bn bc (oks x l ks)) := HH.out.keep hBz
      have HBz := step_below HB hBz
      have HRz : Hid (RefD wz B r x g pr cap (ra ++ ⟨l, q, paa, pn, pcc, ks⟩ :: rc)) := HRr.out.keep hBz
      clear hwz hBz HH HB HRr d0 d1 d2 e0 e1 e2 x1 x2
      go_upto_if 81 with fail
      go_cut [81] from 82 to 86 (fun v81 wx => Hid (Dp w wx B r x (max g (l + 1)) pr cap n (ra ++ ⟨l, q, paa, pn, pcc, ks⟩ :: rc)) ∧ Hid (Hv wx w.heap.size P A C l q ⟨l, q, paa, pn, pcc, ks⟩ aa an ac (zks x l ks) ba bn bc (oks x l ks)) ∧ Hid (w.heap.size ≤ wx.heap.size))
      case first =>
        by_cases hd : (g : Int) < (l : Int) + 1
        · obtain ⟨y0, -, -, -⟩ := HHz.out.pa.cell
          have y1 := HRz.out.cdep
          have y2 : wz.frozen? ⟨r, 1, none⟩ = false := by simp [World.frozen?, HRz.out.blk]
          have HD2 : Hid (Dp w (wz.setCell ⟨r, 1, none⟩ (.int .i64 ((l : Int) + 1))) B r x (max g (l + 1)) pr cap n (ra ++ ⟨l, q, paa, pn, pcc, ks⟩ :: rc)) := by
            have hz := HRz.out
            have hmx : max g (l + 1) = l + 1 := by omega
            have hgt : ∀ {e s a n c cs}, OwnR wz B e s a n c cs → e ≠ 68 → OwnR (wz.setCell ⟨r, 1, none⟩ (.int .i64 ((l : Int) + 1))) B e s a n c cs := fun hO he => OwnR.stay hO (Stay.set (q := r)) (fun k hk => by
              simp only [List.mem_singleton]
              rintro rfl
              obtain ⟨-, -, cur, h1⟩ := OwnR.lt hO hk
              rw [hz.blk] at h1
              simp at h1
              exact he h1.2.symm)
            refine ⟨?_, ?_, ?_, mv_set (Mv.of_below HBz.out) hz.blk rfl, ?_⟩
            · rw [hmx, heap_set hz.blk, ← HNn.out]; rfl
            · rw [← HNn.out]; exact hgt hz.row (by decide)
            · intro p hp; exact hgt (hz.key p hp) (by decide)
            · exact (HBz.out.mono HBB.out).trans ((Stay.set (q := r)).below (by intro i hi; simp at hi; have := hz.low; omega) (Nat.le_trans HBB.out HBz.out.size))
          have HH2 : Hid (Hv (wz.setCell ⟨r, 1, none⟩ (.int .i64 ((l : Int) + 1))) w.heap.size P A C l q ⟨l, q, paa, pn, pcc, ks⟩ aa an ac (zks x l ks) ba bn bc (oks x l ks)) := by
            have hz := HRz.out
            have hrl := HR.out.lt
            have hv := HHz.out
            have hne := hv.ne
            have hrow : ∀ {a n c ls}, OwnS wz w.heap.size a n c ls → OwnS (wz.setCell ⟨r, 1, none⟩ (.int .i64 ((l : Int) + 1))) w.heap.size a n c ls := fun hO => OwnR.stay hO (Stay.set (q := r)) (fun k hk => by
              simp only [List.mem_singleton]
              have := (OwnR.lt hO hk).1
              omega)
            exact ⟨hv.pp.other (by omega), hv.pa.other (by omega), hv.pb.other (by omega), hrow hv.oa, hrow hv.ob, hv.ap, hv.ne⟩
          have HS2 : Hid (w.heap.size ≤ (wz.setCell ⟨r, 1, none⟩ (.int .i64 ((l : Int) + 1))).heap.size) := by have := HBz.out.size; show _ ≤ _; simpa [World.setCell] using this
          go_wp2
          go_meet
          exact ⟨HD2, HH2, HS2⟩
        · have HD2 : Hid (Dp w wz B r x (max g (l + 1)) pr cap n (ra ++ ⟨l, q, paa, pn, pcc, ks⟩ :: rc)) := by
            have hz := HRz.out
            have hmx : max g (l + 1) = g := by omega
            exact ⟨by rw [hmx, ← HNn.out]; exact hz.blk, by rw [← HNn.out]; exact hz.row, hz.key, Mv.of_below HBz.out, HBz.out.mono HBB.out⟩
          have hdz : decide ((g : Int) < (l : Int) + 1) = false := decide_eq_false hd
          have HS2 : Hid (w.heap.size ≤ wz.heap.size) := HBz.out.size
          go_wp2
          go_meet
          exact ⟨HD2, HHz, HS2⟩
      case rest =>
      obtain ⟨HDp, HHp, HSp⟩ := hcut
      clear HRz HHz HBz
      obtain ⟨v0, v1, v2, -⟩ := HHp.out.pa.cell
      have u2 : wc.cell? ⟨r, 2, none⟩ = some (.slice (some ⟨pr, 0, none⟩) n cap) := by simp [World.cell?, HDp.out.blk]
      obtain ⟨r0, r1, r2, z0, z1, z2⟩ : wc.cell? ⟨pr, m * 3, none⟩ = some (.int .i64 (l : Nat)) ∧ wc.cell? ⟨pr, m * 3 + 1, none⟩ = some (.int .u64 (q : Nat)) ∧ wc.cell? ⟨pr, m * 3 + 2, none⟩ = some (.slice paa pn pcc) ∧ wc.frozen? ⟨pr, m * 3, none⟩ = false ∧ wc.frozen? ⟨pr, m * 3 + 1, none⟩ = false ∧ wc.frozen? ⟨pr, m * 3 + 2, none⟩ = false := by
        obtain ⟨g', e, hc⟩ := OwnR.at HDp.out.row (by omega)
        cases e
        obtain ⟨k1, k2, k3⟩ := rcells_get (ps := ra ++ (⟨l, q, paa, pn, pcc, ks⟩ : Rp) :: rc) (j := m) (p := ⟨l, q, paa, pn, pcc, ks⟩) (by rw [← HMm.out]; exact get_mid)
        obtain ⟨-, -, cur, hcur⟩ := OwnR.lt HDp.out.row (k := pr) rfl
        exact ⟨hc _ _ k1, hc _ _ k2, hc _ _ k3, by simp [World.frozen?, hcur], by simp [World.frozen?, hcur], by simp [World.frozen?, hcur]⟩
      go_wp2_with fail
      go_region
      obtain ⟨w5, hw5⟩ : ∃ w5, (((wc.setCell ⟨pr, m * 3, none⟩ (.int .i64 ((l : Int) + 1))).setCell ⟨pr, m * 3 + 1, none⟩ (.int .u64 (q : Nat))).setCell ⟨pr, m * 3 + 2, none⟩ (.slice aa an ac)).drew = w5 := ⟨_, rfl⟩
      have hdp := HDp.out
      have hhp := HHp.out
      obtain ⟨hplo, hplt, cur0, hcur0⟩ := OwnR.lt HR.out.row (k := pr) rfl
      have hS5 : Stay wc w5 [pr] := by
        rw [← hw5]
        exact ((Stay.set.trans Stay.set (fun i hi => .inl hi)).trans Stay.set (fun i hi => .inl hi)).trans (Stay.of_below (below_drewN _ 1) []) (fun i hi => by cases hi)
      obtain ⟨-, -, cur, hcur⟩ := OwnR.lt hdp.row (k := pr) rfl
      have HR5 : Hid (OwnR w5 B 65 3 (some ⟨pr, 0, none⟩) n cap (rcells ((ra ++ (⟨l, q, paa, pn, pcc, ks⟩ : Rp) :: rc).set m ⟨l + 1, q, aa, an, ac, zks x l ks⟩))) := by
        show OwnR _ _ _ _ _ _ _ _
        rw [← hw5]
        exact OwnR.keep (set3 hdp.row (i := m) (by omega) ⟨l + 1, q, aa, an, ac, zks x l ks⟩) (below_drewN _ 1)
      have hrp : r ≠ pr := by
        rintro rfl
        rw [hdp.blk] at hcur
        simp at hcur
      have HK5 : Hid (w5.heap[r]? = some (.cells #[.int .u64 (x : Nat), .int .i64 ((max g (l + 1) : Nat) : Int), .slice (some ⟨pr, 0, none⟩) n cap] 68 (0, 0))) := by
        show _ = _
        rw [hS5.block r (Array.getElem?_eq_some_iff.1 hdp.blk).1 (by simpa using hrp)]
        exact hdp.blk
      have hkeep : ∀ {B' a n c ls}, OwnS wc B' a n c ls → OwnS w5 B' a n c ls := fun hO => OwnR.stay hO hS5 (fun k hk => by
        simp only [List.mem_singleton]
        rintro rfl
        obtain ⟨-, -, cur2, h1⟩ := OwnR.lt hO hk
        rw [hcur] at h1
        simp at h1)
      have HKs : Hid ((∀ p ∈ ra ++ (⟨l, q, paa, pn, pcc, ks⟩ : Rp) :: rc, OwnS w5 B p.a p.n p.cap p.ks) ∧ OwnS w5 B aa an ac (zks x l ks) ∧ OwnS w5 B ba bn bc (oks x l ks)) :=
        ⟨fun p hp => hkeep (hdp.key p hp), OwnR.low (hkeep hhp.oa) HBB.out, OwnR.low (hkeep hhp.ob) HBB.out⟩
      have HM5 : Hid (Mv rtag w w5) := by
        show Mv _ _ _
        rw [← hw5]
        have m1 := mv_set (o := m * 3) (v := .int .i64 ((l : Int) + 1)) hdp.mv hcur rfl
        have h1 := heap_set (o := m * 3) hcur (.int .i64 ((l : Int) + 1))
        have m2 := mv_set (o := m * 3 + 1) (v := .int .u64 (q : Nat)) m1 h1 rfl
        have h2 := heap_set (o := m * 3 + 1) h1 (.int .u64 (q : Nat))
        have m3 := mv_set (o := m * 3 + 2) (v := .slice aa an ac) m2 h2 rfl
        exact m3.trans (Mv.of_below (below_drewN _ 1))
      have HB5 : Hid (Below B w w5) := hdp.bel.trans (hS5.below (by intro i hi; simp at hi; omega) (Nat.le_trans HBB.out HSp.out))
      have hCp : isPart w5 C (l + 1) (q + 2 ^ l) ba bn bc := by
        have h1 := hhp.pb
        have h2 := h1.lt
        unfold isPart at h1 ⊢
        rw [hS5.block C h2 (by have := hhp.ne.2.2.2.2.2; simp; omega)]
        exact h1
      obtain ⟨g0, g1, g2, -⟩ := hCp.cell
      have y2 : w5.cell? ⟨r, 2, none⟩ = some (.slice (some ⟨pr, 0, none⟩) n cap) := by simp [World.cell?, HK5.out]
      have hQ2 : ((q + 2 ^ l : Nat) : Int) = (q : Int) + (Q : Int) := by rw [HQ.out]; omega
      rw [hQ2] at g1
      rw [hw5]
      obtain ⟨w6, hw6⟩ : ∃ w6, (w5.alloc (.cells #[.int .i64 ((l : Int) + 1), .int .u64 ((q : Int) + (Q : Int)), .slice ba bn bc] 65)).drew = w6 := ⟨_, rfl⟩
      have hB6 : Below w5.heap.size w5 w6 := by rw [← hw6]; exact (step_below (alloc_below w5 _ : Hid _) (below_drewN _ 1)).out
      have HNw : Hid (∀ j u, ([Value.int .i64 ((l : Int) + 1), .int .u64 ((q : Int) + (Q : Int)), .slice ba bn bc])[j]? = some u → w6.cell? ((⟨w5.heap.size, 0, none⟩ : Addr).add j) = some u) := by
        intro j u hu
        rw [add_flat, ← hw6]
        show (w5.alloc _).cell? _ = _
        simp only [World.cell?, heap_alloc_new]
        match j with
        | 0 => exact hu
        | 1 => exact hu
        | 2 => exact hu
        | j + 3 => simp at hu
      have HR6 : Hid (OwnR w6 B 65 3 (some ⟨pr, 0, none⟩) n cap (rcells ((ra ++ (⟨l, q, paa, pn, pcc, ks⟩ : Rp) :: rc).set m ⟨l + 1, q, aa, an, ac, zks x l ks⟩))) := OwnR.keep HR5.out hB6
      have HK6 : Hid (w6.heap[r]? = some (.cells #[.int .u64 (x : Nat), .int .i64 ((max g (l + 1) : Nat) : Int), .slice (some ⟨pr, 0, none⟩) n cap] 68 (0, 0))) := by show _ = _; rw [hB6.block r (Array.getElem?_eq_some_iff.1 HK5.out).1]; exact HK5.out
      have HS6 : Hid (B ≤ w6.heap.size) := Nat.le_trans HBB.out (Nat.le_trans HSp.out (Nat.le_trans hS5.size hB6.size))
      have HB6 : Hid (Below w5.heap.size w5 w6) := hB6
      have HSz5 : Hid (w.heap.size ≤ w5.heap.size) := Nat.le_trans HSp.out hS5.size
      have y6 : w6.cell? ⟨r, 2, none⟩ = some (.slice (some ⟨pr, 0, none⟩) n cap) := by simp [World.cell?, HK6.out]
      have k0 : w6.cell? ⟨C, 0, none⟩ = some (.int .i64 ((l : Int) + 1)) ∧ w6.cell? ⟨C, 1, none⟩ = some (.int .u64 ((q : Int) + (Q : Int))) ∧ w6.cell? ⟨C, 2, none⟩ = some (.slice ba bn bc) := by
        have := (hCp.keep hB6).cell
        exact ⟨this.1, by rw [← hQ2]; exact this.2.1, this.2.2.1⟩
      have HSc : Hid (∀ w7, w6.grownBy w7 (some pr) → w7.heap[r]? = some (.cells #[.int .u64 (x : Nat), .int .i64 ((max g (l + 1) : Nat) : Int), .slice (some ⟨pr, 0, none⟩) n cap] 68 (0, 0))) := fun w7 hg => by
        rw [hg.block r (Array.getElem?_eq_some_iff.1 HK6.out).1 (by intro e; injection e with e; exact hrp e)]
        exact HK6.out
      have HPr : Hid (B ≤ pr ∧ pr < w.heap.size ∧ r ≠ pr) := ⟨hplo, hplt, hrp⟩
      obtain ⟨k1, k2, k3⟩ := k0
      clear hw5 hdp hhp hcur hcur0 hS5 hrp hkeep hCp hB6 hplo hplt v0 v1 v2 u2 r0 r1 r2 z0 z1 z2 HDp HHp HR5 HK5 hQ2
      go_wp2_with fail
      go_region_law (refine step_append_r rfl (.tmp 98) (.tmp 100) rfl eltR B rfl HR6.out [.int .i64 ((l : Int) + 1), .int .u64 ((q : Int) + (Q : Int)), .slice ba bn bc] rfl rfl HNw.out (by simp [Value.oneCell']) (by decide) (by omega) (by unfold maxLen; omega) HS6.out ?_; intro a7 n7 c7 w7 hn7 HO7 HG7 HW7; have hblk7 := HSc.out w7 HG7.out; have hc7 : w7.cell? ⟨r, 2, none⟩ = some (.slice (some ⟨pr, 0, none⟩) n cap) := (by simp [World.cell?, hblk7]); have hf7 : w7.frozen? ⟨r, 2, none⟩ = false := (by simp [World.frozen?, hblk7]); clear hblk7)
      all_goals
        go_wp2
        go_end0
        refine ⟨rfl, ?_⟩
        have hO7 := HO7.out
        rw [hn7] at hO7
        obtain ⟨g7, rfl, -⟩ := OwnR.at hO7 (by omega)
        have hg7 := HG7.out
        have hb7 := HSc.out w7 hg7
        have hlen : (ra ++ (⟨l + 1, q, aa, an, ac, zks x l ks⟩ : Rp) :: (rc ++ [(⟨l + 1, q + 2 ^ l, ba, bn, bc, oks x l ks⟩ : Rp)])).length = n + 1 := by
          have := HNn.out
          simp at this ⊢
          omega
        have hcs : rcells ((ra ++ (⟨l, q, paa, pn, pcc, ks⟩ : Rp) :: rc).set m ⟨l + 1, q, aa, an, ac, zks x l ks⟩) ++ [.int .i64 ((l : Int) + 1), .int .u64 ((q : Int) + (Q : Int)), .slice ba bn bc] = rcells (ra ++ (⟨l + 1, q, aa, an, ac, zks x l ks⟩ : Rp) :: (rc ++ [(⟨l + 1, q + 2 ^ l, ba, bn, bc, oks x l ks⟩ : Rp)])) := by
          rw [← HMm.out, List.set_append_right _ _ (Nat.le_refl _), Nat.sub_self]
          have e9 : ra ++ (⟨l + 1, q, aa, an, ac, zks x l ks⟩ : Rp) :: (rc ++ [(⟨l + 1, q + 2 ^ l, ba, bn, bc, oks x l ks⟩ : Rp)]) = (ra ++ (⟨l + 1, q, aa, an, ac, zks x l ks⟩ : Rp) :: rc) ++ [(⟨l + 1, q + 2 ^ l, ba, bn, bc, oks x l ks⟩ : Rp)] := by simp
          have e10 : rcells ((ra ++ (⟨l + 1, q, aa, an, ac, zks x l ks⟩ : Rp) :: rc) ++ [(⟨l + 1, q + 2 ^ l, ba, bn, bc, oks x l ks⟩ : Rp)]) = rcells (ra ++ (⟨l + 1, q, aa, an, ac, zks x l ks⟩ : Rp) :: rc) ++ rcells [(⟨l + 1, q + 2 ^ l, ba, bn, bc, oks x l ks⟩ : Rp)] := rcells_append _ _
          rw [e9, e10]
          refine congrArg (rcells (ra ++ (⟨l + 1, q, aa, an, ac, zks x l ks⟩ : Rp) :: rc) ++ ·) ?_
          show _ = [Value.int .i64 ((l + 1 : Nat) : Int), .int .u64 ((q + 2 ^ l : Nat) : Int), .slice ba bn bc]
          rw [HQ.out]
          rfl
        have hg7r : g7 ≠ r := by
          rintro rfl
          obtain ⟨-, -, cur, h1⟩ := OwnR.lt hO7 (k := g7) rfl
          rw [hb7] at h1
          simp at h1
        have hkp : ∀ {a n' c ls}, OwnS w5 B a n' c ls → OwnS (w7.setCell ⟨r, 2, none⟩ (.slice (some ⟨g7, 0, none⟩) (n + 1) c7)) B a n' c ls := fun hO => by
          have h1 := OwnR.mv (p := fun t => t == 65) (OwnR.keep hO HB6.out) (OwnR.mvg HR6.out hg7) rfl
          exact OwnR.stay h1 (Stay.set (q := r)) (fun k hk => by
            simp only [List.mem_singleton]
            rintro rfl
            obtain ⟨-, -, cur, h2⟩ := OwnR.lt h1 hk
            rw [hb7] at h2
            simp at h2)
        have hbel7 : Below B w w7 := (HB5.out.trans (HB6.out.mono (Nat.le_trans HBB.out HSz5.out))).trans (OwnR.below HR6.out hg7 HS6.out)
        have hmv7 : Mv rtag w w7 := (HM5.out.trans (Mv.of_below HB6.out)).trans ((OwnR.mvg HR6.out hg7).imp (fun t ht => by
          cases e : (t == 65) with
          | false => rfl
          | true => have := eq_of_beq e; subst this; cases ht))
        refine ⟨g7, c7, ⟨l + 1, q, aa, an, ac, zks x l ks⟩, ⟨l + 1, q + 2 ^ l, ba, bn, bc, oks x l ks⟩, HR.out.split hl rfl rfl rfl rfl ?_ ?_ ?_, rfl, rfl, zo_perm x l ks, ?_, ?_⟩
        · rw [hlen, heap_set hb7]; rfl
        · rw [hlen, ← hcs]
          exact OwnR.stay hO7 (Stay.set (q := r)) (fun k hk => by cases hk; simpa using hg7r)
        · intro u hu
          simp only [List.mem_append, List.mem_cons, List.not_mem_nil, or_false] at hu
          rcases hu with hu | rfl | hu | rfl
          · exact hkp (HKs.out.1 u (by simp [hu]))
          · exact hkp HKs.out.2.1
          · exact hkp (HKs.out.1 u (by simp [hu]))
          · exact hkp HKs.out.2.2
        · exact hbel7.trans ((Stay.set (q := r)).below (by intro i hi; simp at hi; have := HR.out.low; omega) (Nat.le_trans HS6.out (OwnR.below HR6.out hg7 HS6.out).size))
        · exact mv_set hmv7 hb7 rfl
end Go.Proofs.Ytejnmikbbnckeaa

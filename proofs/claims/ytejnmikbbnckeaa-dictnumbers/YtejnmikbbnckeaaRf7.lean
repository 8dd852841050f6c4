/-
  The document's own dict: the walk of Put.
-/
import Derived.Test.YtejnmikbbnckeaaRf6
namespace Go.Proofs.Ytejnmikbbnckeaa
open Go.RowKit Go.PlainAid

abbrev oE : Obj := .cells #[] 9
abbrev oK (k : ByteArray) : Obj := .cells #[.string k] 9
/-- The keys of a part, and one more, in new memory. -/
def Snoc (wz w8 : World) (k : ByteArray) (kk : List ByteArray) (a8 : Option Addr) (n8 c8 : Nat) : Prop := Below wz.heap.size wz w8 ∧ OwnS w8 wz.heap.size a8 n8 c8 (kk ++ [k])

theorem rput_end (B r x g pr cap : Nat) (ra rc : List Rp) (p : Rp) (k : ByteArray) (w w8 : World) (a8 : Option Addr) (n8 c8 : Nat) (hR : RefD w B r x g pr cap (ra ++ p :: rc)) (hS : Snoc w w8 k p.ks a8 n8 c8) (hi : isIn p.pt (hsh x k) = true) (hk : k ∉ rks (ra ++ p :: rc)) (hks : k.size ≤ maxLen) (hle : (rks (ra ++ p :: rc)).length < 1000000) :
    ∃ ps', RefD (w8.setCell ⟨pr, ra.length * 3 + 2, none⟩ (.slice a8 n8 c8)) B r x g pr cap ps' ∧ rsh ps' = rsh (ra ++ p :: rc) ∧ (rks ps').Perm (rks (ra ++ p :: rc) ++ [k]) ∧ Mv rtag w (w8.setCell ⟨pr, ra.length * 3 + 2, none⟩ (.slice a8 n8 c8)) ∧ Below B w (w8.setCell ⟨pr, ra.length * 3 + 2, none⟩ (.slice a8 n8 c8)) := by
  have hB : B ≤ w.heap.size := by have h1 := hR.low; have h2 := hR.lt; omega
  have hp : (rks (ra ++ ⟨p.l, p.q, a8, n8, c8, p.ks ++ [k]⟩ :: rc)).Perm (rks (ra ++ p :: rc) ++ [k]) := by
    rw [rks_append, rks_append, rks_cons, rks_cons]
    show (rks ra ++ ((p.ks ++ [k]) ++ rks rc)).Perm _
    rw [List.append_assoc (rks ra)]
    refine List.Perm.append_left _ ?_
    rw [List.append_assoc, List.append_assoc]
    exact List.Perm.append_left _ List.perm_append_comm
  obtain ⟨h1, h2, h3⟩ := hR.turn hS.1 (OwnR.low hS.2 hB) (fun y hy => by
    rcases List.mem_append.1 hy with hy | hy
    · exact hR.own p (by simp) y hy
    · rw [List.mem_singleton.1 hy]; exact hi) (hp.nodup_iff.2 (by
    rw [List.nodup_append]
    exact ⟨hR.nod, by simp, fun a ha b hb e => by simp at hb; subst hb; subst e; exact hk ha⟩)) (fun y hy => by
    rcases List.mem_append.1 hy with hy | hy
    · exact hR.siz y (by rw [rks_append, rks_cons]; simp [hy])
    · rw [List.mem_singleton.1 hy]; exact hks) (by rw [hp.length_eq, List.length_append]; simp; omega)
  exact ⟨_, h1, by unfold rsh; rw [List.map_append, List.map_append]; rfl, hp, h2, h3⟩

set_option maxRecDepth 100000 in
set_option maxHeartbeats 16000000 in
theorem RPut_new (B r x g pr cap : Nat) (ps : List Rp) (k : ByteArray) (w : World) (hR : RefD w B r x g pr cap ps) (hks : k.size ≤ maxLen) (hk : k ∉ rks ps) (hle : (rks ps).length < 1000000) :
    Calls Try.prog 11 #[ptr r, .string k] w fun e w' => e = .returned (.tuple #[]) ∧ ∃ g' pr' cap' ps', RefD w' B r x g' pr' cap' ps' ∧ (g', rsh ps') = grow x (rks ps) (hsh x k) 17 g (rsh ps) ∧ (rks ps').Perm (rks ps ++ [k]) ∧ Below B w w' ∧ Mv rtag w w' := by
  have hx := hR.seed
  have HOf := fun w => refOf_hsh x k w hks hx
  have HKS : Hid (k.size ≤ maxLen) := hks
  have HK : Hid (k ∉ rks ps) := hk
  have HLe : Hid ((rks ps).length < 1000000) := hle
  obtain ⟨h, eh⟩ : ∃ h, hsh x k = h := ⟨_, rfl⟩
  have HEh : Hid (hsh x k = h) := eh
  have hh : h < 18446744073709551616 := by rw [← eh]; exact hsh_lt x k
  rw [eh] at HOf ⊢
  have HR : Hid (RefD w B r x g pr cap ps) := hR
  obtain ⟨R, hRR⟩ : ∃ R, grow x (rks ps) h 17 g (rsh ps) = R := ⟨_, rfl⟩
  have HG : Hid (grow x (rks ps) h 17 g (rsh ps) = R) := hRR
  rw [hRR]
  have HPa : ∀ (w' : World) (g1 pr1 cap1 : Nat) (ps1 : List Rp), RefD w' B r x g1 pr1 cap1 ps1 → Calls Try.prog 35 #[ptr r, .int .u64 h] w' fun e w'' => e = .returned (.int .i64 (pidx (rsh ps1) h : Nat)) ∧ Below w'.heap.size w' w'' := fun w' g1 pr1 cap1 ps1 hR1 => part_any B r x g1 pr1 cap1 ps1 h w' hR1 hh
  have hc0 := hR.cseed
  obtain ⟨ra, p, rc, eP, hi, h2, h3, hix⟩ := hR.parts h
  have hpa := HPa w g pr cap ps hR
  rw [hix] at hpa
  have hfew := hR.few
  have hlen : ra.length < ps.length := by rw [eP]; simp
  have hAt : ∀ w', Below w.heap.size w w' → Calls Try.prog 36 #[.slice p.a p.n p.cap, .string k] w' fun e w'' => e = .returned (.int .i64 (-1)) ∧ w'' = w' := fun w' hb => by
    refine at_no p.a p.n p.cap p.ks k w' (OwnR.low ((hR.keep hb).key p (by rw [eP]; simp)) (Nat.zero_le _)) ?_ ?_
    · have h1 := OwnS.len (hR.key p (by rw [eP]; simp))
      rw [eP] at hR
      have h2 := hR.lep
      omega
    · rw [eP] at hR hk
      exact fun hm => hk (by rw [rks_append, rks_cons]; simp [hm])
  have HC2 : Hid (∀ w', Below w.heap.size w w' → w'.cell? ⟨r, 2, none⟩ = some (.slice (some ⟨pr, 0, none⟩) ps.length cap) ∧ w'.cell? ⟨pr, ra.length * 3 + 2, none⟩ = some (.slice p.a p.n p.cap)) := fun w' hb => ⟨(hR.keep hb).cpar, ((hR.keep hb).at (j := ra.length) (p := p) (by rw [eP]; exact get_mid)).2.2⟩
  have HIx : Hid (pidx (rsh ps) h = ra.length) := hix
  generalize p.a = aa at hAt HC2
  generalize p.n = nn at hAt HC2
  generalize p.cap = cc at hAt HC2
  generalize hnl : ps.length = n at hfew hlen HC2
  generalize ra.length = m at hpa hlen HC2 HIx
  have hmn : (m : Int) < n := by omega
  have HBB : Hid (B ≤ w.heap.size) := by have h1 := hR.low; have h2 := hR.lt; show _ ≤ _; omega
  clear hR hk hks hle eh hRR eP hi h2 h3 hix hnl
  go_enter Try.func11, Try.ntmps11
  go_wp2_with fail
  refine (HOf _).mono ?_
  rintro e w ⟨rfl, rfl⟩
  go_wp2_with fail
  refine hpa.mono ?_
  rintro e w1 ⟨rfl, hb1⟩
  have HB1 : Hid (Below w.heap.size w w1) := hb1
  obtain ⟨u1, u2⟩ := HC2.out w1 hb1
  have hat := hAt w1 hb1
  clear hpa hAt HOf hb1 hc0
  go_wp2_with fail
  refine hat.mono ?_
  rintro e w1 ⟨rfl, rfl⟩
  have HT1 : Hid (RefD w1 B r x g pr cap ps ∧ Below B w w1 ∧ Mv rtag w w1) := ⟨HR.out.keep HB1.out, HB1.out.mono HBB.out, Mv.of_below HB1.out⟩
  clear hat u1 u2 HC2 HB1
  go_wp2
  go_loopg [5] 17 (fun n iv wr => ∃ (g1 pr1 cap1 : Nat) (ps1 : List Rp), iv = .int .i64 (pidx (rsh ps1) h : Nat) ∧ Hid (RefD wr B r x g1 pr1 cap1 ps1 ∧ Below B w wr ∧ Mv rtag w wr) ∧ Hid ((rks ps1).Perm (rks ps)) ∧ Hid (grow x (rks ps) h n g1 (rsh ps1) = R) ∧ Hid (∀ u ∈ ps1, isIn u.pt h = true → 16 < u.l + n))
  case atStart => exact ⟨g, pr, cap, ps, by rw [HIx.out], HT1, List.Perm.refl _, HG, (fun u _ _ => by omega : ∀ u ∈ ps, isIn u.pt h = true → 16 < u.l + 17)⟩
  case round =>
    clear HT1 HG hmn hlen hfew
    obtain ⟨g1, pr1, cap1, ps1, rfl, HT, HPm, HG, HMe⟩ := hrel
    have hR1 := HT.out.1
    obtain ⟨ra, p, rc, eP, hi, h2, h3, hix⟩ := hR1.parts h
    subst eP
    rw [hix]
    obtain ⟨c0, -, c2⟩ := hR1.at (j := ra.length) (p := p) get_mid
    have u1 := hR1.cpar
    have hfew := hR1.few
    have hlen : ra.length < (ra ++ p :: rc).length := by simp
    have Hi : Hid (isIn p.pt h = true) := hi
    have Ha : Hid (∀ u ∈ ra, isIn u.pt h = false) := h2
    have Hcc : Hid (∀ u ∈ rc, isIn u.pt h = false) := h3
    have HCn : Hid (cntIn x (rks ps) p.pt = p.ks.length) := by show _ = _; rw [cntIn_perm HPm.out.symm]; exact hR1.cnt
    have HKl : Hid (p.ks.length = p.n) := OwnS.len (hR1.key p (by simp))
    have hkl : p.n ≤ 1000000 := by have := hR1.lep; have := HKl.out; omega
    have HshE : Hid (rsh (ra ++ p :: rc) = rsh ra ++ (p.l, p.q) :: rsh rc) := by show _ = _; unfold rsh; rw [List.map_append]; rfl
    have Ha2 : Hid (∀ s ∈ rsh ra, isIn s h = false) := fun s hs => by obtain ⟨u, hu, rfl⟩ := List.mem_map.1 hs; exact h2 u hu
    have hme := HMe.out p (by simp) hi
    have hlp := hR1.shp.lt p.pt (by unfold rsh; simp)
    have hg16 := hR1.shp.le
    have hl16 : p.l ≤ 16 := by simp only [Rp.pt] at hlp; omega
    have hsp := fun hl => rsplit_any B r x g1 pr1 cap1 ra rc p wr hR1 hl
    generalize hm : ra.length = m at c0 c2 hlen hsp
    have HM : Hid (ra.length = m) := hm
    generalize hnn : (ra ++ p :: rc).length = n at u1 hfew hlen
    have hmn : (m : Int) < n := by omega
    clear hi h2 h3 hix hlp hm hnn
    by_cases hb : p.l < 16 ∧ 112 ≤ p.ks.length
    · have hSp := hsp hb.1
      have HBo : Hid (p.l < 16 ∧ 112 ≤ p.ks.length) := hb
      have hz1 : (112 : Int) ≤ p.n := by have := HKl.out; omega
      have hz2 : (p.l : Int) < 16 := by omega
      clear hb hsp hR1
      go_wp2_with fail
      refine hSp.mono ?_
      rintro e w4 ⟨rfl, pr4, cap4, p0, p1, hR4, e0, e1, hp4, hb4, hm4⟩
      have HT4 : Hid (RefD w4 B r x (max g1 (p.l + 1)) pr4 cap4 (ra ++ p0 :: (rc ++ [p1])) ∧ Below B w w4 ∧ Mv rtag w w4) := ⟨hR4, HT.out.2.1.trans hb4, HT.out.2.2.trans hm4⟩
      have HP4 : Hid ((rks (ra ++ p0 :: (rc ++ [p1]))).Perm (rks ps)) := by
        refine List.Perm.trans ?_ HPm.out
        rw [rks_append, rks_append, rks_cons, rks_cons, rks_append]
        refine List.Perm.append_left _ ?_
        refine (List.Perm.append_left _ List.perm_append_comm).trans ?_
        rw [← List.append_assoc]
        have e2 : rks [p1] = p1.ks := by rw [rks_cons]; exact List.append_nil _
        rw [e2]
        exact hp4.append_right _
      obtain ⟨q', rfl⟩ : ∃ n, gk = n + 1 := ⟨gk - 1, by have := HBo.out.1; omega⟩
      have HG4 : Hid (grow x (rks ps) h q' (max g1 (p.l + 1)) (rsh (ra ++ p0 :: (rc ++ [p1]))) = R) := by
        have := HG.out
        rw [HshE.out, grow_yes (a := rsh ra) (c := rsh rc) (l := p.l) (q := p.q) Hi.out Ha2.out HBo.out.1 (by have := HCn.out; unfold Rp.pt at this; rw [this]; exact HBo.out.2)] at this
        have e9 : rsh (ra ++ p0 :: (rc ++ [p1])) = rsh ra ++ (p.l + 1, p.q) :: (rsh rc ++ [(p.l + 1, p.q + 2 ^ p.l)]) := by
          unfold rsh
          rw [List.map_append, List.map_cons, List.map_append, e0]
          show _ ++ _ :: (_ ++ [p1.pt]) = _
          rw [e1]
        rw [e9]
        exact this
      have HM4 : Hid (∀ u ∈ ra ++ p0 :: (rc ++ [p1]), isIn u.pt h = true → 16 < u.l + q') := by
        intro u hu hiu
        simp only [List.mem_append, List.mem_cons, List.not_mem_nil, or_false] at hu
        rcases hu with hu | rfl | hu | rfl
        · rw [Ha.out u hu] at hiu; cases hiu
        · have := congrArg Prod.fst e0
          simp only [Rp.pt] at this
          omega
        · rw [Hcc.out u hu] at hiu; cases hiu
        · have := congrArg Prod.fst e1
          simp only [Rp.pt] at this
          omega
      have hpa := HPa w4 _ _ _ _ hR4
      clear hSp hR4 e0 e1 hp4 hb4 hm4 HT HPm HG HMe c0 c2 u1
      go_wp2_with fail
      refine hpa.mono ?_
      rintro e w5 ⟨rfl, hb5⟩
      have HT5 : Hid (RefD w5 B r x (max g1 (p.l + 1)) pr4 cap4 (ra ++ p0 :: (rc ++ [p1])) ∧ Below B w w5 ∧ Mv rtag w w5) := ⟨HT4.out.1.keep hb5, HT4.out.2.1.trans (hb5.mono (Nat.le_trans HBB.out HT4.out.2.1.size)), HT4.out.2.2.trans (Mv.of_below hb5)⟩
      clear hb5 hpa HT4
      go_wp2
      go_roundg q'
      case measure => omega
      case rel => exact ⟨_, _, _, _, rfl, HT5, HP4, HG4, HM4⟩
    · have HR5 : Hid ((g1, rsh (ra ++ p :: rc)) = R) := by
        have := HG.out
        rw [HshE.out, grow_no (a := rsh ra) (c := rsh rc) (l := p.l) (q := p.q) Hi.out Ha2.out (by have h9 := HCn.out; unfold Rp.pt at h9; rw [h9]; exact hb), ← HshE.out] at this
        exact this
      have hstop : (¬ (112 : Int) ≤ p.n) ∨ ((112 : Int) ≤ p.n ∧ ¬ (p.l : Int) < 16) := by
        by_cases h1 : (112 : Int) ≤ p.n
        · exact .inr ⟨h1, fun h2 => hb ⟨by omega, by have := HKl.out; omega⟩⟩
        · exact .inl h1
      have HFin : Hid (∀ w8 a8 n8 c8, Snoc wr w8 k p.ks a8 n8 c8 → ∃ g' pr' cap' ps', RefD (w8.setCell ⟨pr1, m * 3 + 2, none⟩ (.slice a8 n8 c8)) B r x g' pr' cap' ps' ∧ (g', rsh ps') = R ∧ (rks ps').Perm (rks ps ++ [k]) ∧ Below B w (w8.setCell ⟨pr1, m * 3 + 2, none⟩ (.slice a8 n8 c8)) ∧ Mv rtag w (w8.setCell ⟨pr1, m * 3 + 2, none⟩ (.slice a8 n8 c8))) := by
        intro w8 a8 n8 c8 hS
        obtain ⟨ps', k1, k2, k3, k4, k5⟩ := rput_end B r x g1 pr1 cap1 ra rc p k wr w8 a8 n8 c8 HT.out.1 hS (by rw [HEh.out]; exact Hi.out) (fun hm => HK.out (HPm.out.mem_iff.1 hm)) HKS.out (by rw [HPm.out.length_eq]; exact HLe.out)
        rw [HM.out] at k1 k4 k5
        exact ⟨g1, pr1, cap1, ps', k1, by rw [k2]; exact HR5.out, k3.trans (HPm.out.append_right _), HT.out.2.1.trans k5, HT.out.2.2.trans k4⟩
      have HKr : Hid (RdR wr p.a p.n p.cap (scells p.ks)) := OwnR.rd (hR1.key p (by simp))
      have HRp : Hid (r ≠ pr1) := by
        rintro rfl
        obtain ⟨-, -, cur, h1⟩ := OwnR.lt hR1.row (k := r) rfl
        rw [hR1.blk] at h1
        simp at h1
      have HCs : Hid (∀ w', Below wr.heap.size wr w' → w'.cell? ⟨r, 2, none⟩ = some (.slice (some ⟨pr1, 0, none⟩) n cap1) ∧ w'.cell? ⟨pr1, m * 3 + 2, none⟩ = some (.slice p.a p.n p.cap) ∧ w'.frozen? ⟨pr1, m * 3 + 2, none⟩ = false) := fun w' hb => by
        have hx1 := World.block_lt_of_cell? _ _ u1
        have hx2 := World.block_lt_of_cell? _ _ c2
        refine ⟨by rw [hb.cell (p := ⟨r, 2, none⟩) hx1]; exact u1, by rw [hb.cell (p := ⟨pr1, m * 3 + 2, none⟩) hx2]; exact c2, ?_⟩
        obtain ⟨-, -, cur, h1⟩ := OwnR.lt (hR1.keep hb).row (k := pr1) rfl
        simp [World.frozen?, h1]
      clear hb hsp HG HMe HT HCn HshE Ha2 Ha Hcc HR5
      generalize p.ks = kk at HFin HKr HKl
      generalize p.a = aa at c2 HKr HCs
      generalize p.n = nn at c2 HKr HCs HKl hkl hstop
      generalize p.cap = cc at c2 HKr HCs
      generalize p.l = ll at c0 hl16 hstop hme
      clear hR1 HKl
      have HNn : Hid ((0 + nn) * 16 ≤ 140737488355328 ∧ 0 + nn ≤ maxLen ∧ (0 + nn + 1) * 16 ≤ 140737488355328 ∧ 0 + nn + 1 ≤ maxLen) := ⟨by omega, by unfold maxLen; omega, by omega, by unfold maxLen; omega⟩
      have HOc : Hid (∀ u ∈ scells kk, u.oneCell' = true) := by intro u hu; obtain ⟨s, -, rfl⟩ := List.mem_map.1 hu; rfl
      obtain ⟨q, hq⟩ : ∃ q, wr.heap.size = q := ⟨_, rfl⟩
      have HX1 : Hid (Below wr.heap.size wr (wr.alloc (.cells #[] 9)).drew) := (alloc_below wr _).drew
      have HX4 : Hid (Below wr.heap.size wr (wr.alloc (.cells #[.string k] 9)).drew) := (alloc_below wr _).drew
      have HX2 : Hid (Below wr.heap.size wr ((wr.alloc (.cells #[] 9)).alloc (.cells #[.string k] 9)).drew) := (alloc2_below wr _ _).drew
      have HX3 : Hid (Below wr.heap.size wr ((wr.alloc (.cells #[.string k] 9)).alloc (.cells #[] 9)).drew) := (alloc2_below wr _ _).drew
      have hpush : ∀ o, (wr.alloc o).heap.size = q + 1 := fun o => by rw [← hq]; simp
      have HO1 : Hid (OwnR (wr.alloc (.cells #[] 9)).drew wr.heap.size 9 1 (some ⟨q, 0, none⟩) 0 0 []) := by rw [← hq]; exact OwnR.keep (OwnR.made0 wr 9 wr.heap.size (Nat.le_refl _)) (below_drewN _ 1)
      have HO2 : Hid (OwnR ((wr.alloc (.cells #[] 9)).alloc (.cells #[.string k] 9)).drew wr.heap.size 9 1 (some ⟨q, 0, none⟩) 0 0 []) := by rw [← hq]; exact OwnR.keep (OwnR.keep (OwnR.made0 wr 9 wr.heap.size (Nat.le_refl _)) (alloc_below _ _)) (below_drewN _ 1)
      have HO3 : Hid (OwnR ((wr.alloc (.cells #[.string k] 9)).alloc (.cells #[] 9)).drew wr.heap.size 9 1 (some ⟨q + 1, 0, none⟩) 0 0 []) := by rw [← hpush (.cells #[.string k] 9)]; exact OwnR.keep (OwnR.made0 (wr.alloc (.cells #[.string k] 9)) 9 wr.heap.size (alloc_below wr _).size) (below_drewN _ 1)
      have HK2 : Hid (RdR ((wr.alloc (.cells #[] 9)).alloc (.cells #[.string k] 9)).drew (some ⟨q + 1, 0, none⟩) 1 1 [.string k]) := by rw [← hpush (.cells #[] 9)]; exact (RdR.made1 (wr.alloc (.cells #[] 9)) 9 (.string k)).keep (below_drewN _ 1)
      have HK3 : Hid (RdR ((wr.alloc (.cells #[.string k] 9)).alloc (.cells #[] 9)).drew (some ⟨q, 0, none⟩) 1 1 [.string k]) := by rw [← hq]; exact ((RdR.made1 wr 9 (.string k)).keep (alloc_below _ _)).keep (below_drewN _ 1)
      obtain ⟨v1, v2, -⟩ := HCs.out _ (alloc_below wr (.cells #[] 9))
      obtain ⟨v3, v4, -⟩ := HCs.out _ (alloc_below wr (.cells #[.string k] 9))
      obtain ⟨v5, v6, -⟩ := HCs.out _ (alloc2_below wr (.cells #[] 9) (.cells #[.string k] 9))
      obtain ⟨v7, v8, -⟩ := HCs.out _ (alloc2_below wr (.cells #[.string k] 9) (.cells #[] 9))
      have HEnd : Hid (∀ w8 a8 c8, OwnR w8 wr.heap.size 9 1 a8 (0 + nn + 1) c8 ([] ++ scells kk ++ [.string k]) → Below wr.heap.size wr w8 → Snoc wr w8 k kk a8 (nn + 1) c8) := fun w8 a8 c8 ho hb => ⟨hb, by
        rw [Nat.zero_add] at ho
        show OwnR _ _ _ _ _ _ _ _
        rw [scells_append]
        exact ho⟩
      have HX0 : Hid (Below wr.heap.size wr wr.drew) := below_drewN wr 1
      have HSt : Hid (∀ w8 v, Below wr.heap.size wr w8 → (w8.setCell ⟨pr1, m * 3 + 2, none⟩ v).cell? ⟨r, 2, none⟩ = some (.slice (some ⟨pr1, 0, none⟩) n cap1)) := fun w8 v hb => by
        have h0 := (HCs.out w8 hb).1
        have hS : Stay w8 (w8.setCell ⟨pr1, m * 3 + 2, none⟩ v) [pr1] := Stay.set
        have h1 : (w8.setCell ⟨pr1, m * 3 + 2, none⟩ v).heap[r]? = w8.heap[r]? := hS.block r (World.block_lt_of_cell? _ _ h0) (by simpa using HRp.out)
        simp only [World.cell?, h1]
        exact h0
      clear hpush HKS HK HLe hme hkl hl16
      go_upto_region 3 with fail
      go_cut [46] from 26 to 46 (fun v wx => v = .bool false ∧ wr = wx)
      case first =>
        rcases hstop with hs | ⟨hs, hs'⟩
        · go_wp2
          go_meet
          exact ⟨rfl, rfl⟩
        · go_wp2
          go_meet
          exact ⟨rfl, rfl⟩
      case rest =>
      obtain ⟨rfl, rfl⟩ := hcut
      clear hstop c0
      go_upto_region 6 with fail
      go_region_law (first
        | (refine step_append_p rfl (.tmp 58) (.tmp 66) rfl eltS wr.heap.size (by simp [Act.eval] <;> rfl) HO1.out (by simp [Act.eval] <;> rfl) (HKr.out.keep HX1.out) HOc.out HNn.out.1 HNn.out.2.1 HX1.out.size ?_; intro a7 n7 c7 wy hn7 HO7 HG7; subst hn7; have HX7 : Hid (Below wr.heap.size wr wy) := HX1.out.trans (OwnR.below HO1.out HG7.out HX1.out.size); have hy := HCs.out _ HX7.out; have hy1 := (HCs.out _ HX7.out).1; have hz1 := (HCs.out _ (HX7.out.trans ((alloc_below wy (.cells #[.string k] 9)).mono HX7.out.size))).1; clear HG7)
        | (refine step_append_p rfl (.tmp 58) (.tmp 66) rfl eltS wr.heap.size (by simp [Act.eval] <;> rfl) HO2.out (by simp [Act.eval] <;> rfl) (HKr.out.keep HX2.out) HOc.out HNn.out.1 HNn.out.2.1 HX2.out.size ?_; intro a7 n7 c7 wy hn7 HO7 HG7; subst hn7; have HX7 : Hid (Below wr.heap.size wr wy) := HX2.out.trans (OwnR.below HO2.out HG7.out HX2.out.size); have HK7 : Hid (RdR wy (some ⟨q + 1, 0, none⟩) 1 1 [.string k]) := HK2.out.grown HG7.out (fun e => by have e2 := Option.some.inj e; simp at e2); have hy1 := (HCs.out _ HX7.out).1; have hz1 := (HCs.out _ (HX7.out.trans ((alloc_below wy (.cells #[.string k] 9)).mono HX7.out.size))).1; clear HG7)
        | (refine step_append_p rfl (.tmp 58) (.tmp 66) rfl eltS wr.heap.size (by simp [Act.eval] <;> rfl) HO3.out (by simp [Act.eval] <;> rfl) (HKr.out.keep HX3.out) HOc.out HNn.out.1 HNn.out.2.1 HX3.out.size ?_; intro a7 n7 c7 wy hn7 HO7 HG7; subst hn7; have HX7 : Hid (Below wr.heap.size wr wy) := HX3.out.trans (OwnR.below HO3.out HG7.out HX3.out.size); have HK7 : Hid (RdR wy (some ⟨q, 0, none⟩) 1 1 [.string k]) := HK3.out.grown HG7.out (fun e => by have e2 := Option.some.inj e; simp at e2); have hy1 := (HCs.out _ HX7.out).1; have hz1 := (HCs.out _ (HX7.out.trans ((alloc_below wy (.cells #[.string k] 9)).mono HX7.out.size))).1; clear HG7)
        | (refine step_append_p rfl (.tmp 67) (.tmp 69) rfl eltS wr.heap.size (by simp [Act.eval] <;> rfl) HO7.out (by simp [Act.eval] <;> rfl) HK7.out (by simp [Value.oneCell']) HNn.out.2.2.1 HNn.out.2.2.2 HX7.out.size ?_; intro a8 n8 c8 w8 hn8 HO8 HG8; subst hn8; have HX8 : Hid (Below wr.heap.size wr w8) := HX7.out.trans (OwnR.below HO7.out HG8.out HX7.out.size); have HSn := HEnd.out _ _ _ HO8.out HX8.out; have hy := HCs.out _ HX8.out; have hy8 := hy.1; have hc8 := hy.2.1; have hf8 := hy.2.2; clear hy HG8)
        | (refine step_append_p rfl (.tmp 67) (.tmp 69) rfl eltS wr.heap.size (by simp [Act.eval] <;> rfl) (OwnR.keep HO7.out (alloc_below wy (.cells #[.string k] 9))) (by simp [Act.eval] <;> rfl) (RdR.made1 wy 9 (.string k)) (by simp [Value.oneCell']) HNn.out.2.2.1 HNn.out.2.2.2 (Nat.le_trans HX7.out.size (alloc_below wy (.cells #[.string k] 9)).size) ?_; intro a8 n8 c8 w8 hn8 HO8 HG8; subst hn8; have HX8 : Hid (Below wr.heap.size wr w8) := (HX7.out.trans ((alloc_below wy (.cells #[.string k] 9)).mono HX7.out.size)).trans (OwnR.below (OwnR.keep HO7.out (alloc_below wy (.cells #[.string k] 9))) HG8.out (Nat.le_trans HX7.out.size (alloc_below wy (.cells #[.string k] 9)).size)); have HSn := HEnd.out _ _ _ HO8.out HX8.out; have hy := HCs.out _ HX8.out; have hy8 := hy.1; have hc8 := hy.2.1; have hf8 := hy.2.2; clear hy HG8))
      all_goals
        go_wp2
        go_end0
        exact ⟨rfl, HFin.out _ _ _ _ HSn⟩
end Go.Proofs.Ytejnmikbbnckeaa

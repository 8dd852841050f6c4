/-
  The dict and the document's own, side by side (texts Rf8, Two, Ply, Ply2, Ply3, Ply4 in one: a claim has room for sixty files).
-/
import Derived.Test.YtejnmikbbnckeaaRf7
namespace Go.Proofs.Ytejnmikbbnckeaa
open Go.RowKit Go.PlainAid

theorem RefD.mid {w : World} {B r x g pr cap : Nat} {ra rc : List Rp} {p : Rp} (h : RefD w B r x g pr cap (ra ++ p :: rc)) {k : ByteArray} (h2 : ∀ u ∈ ra, isIn u.pt (hsh x k) = false) (h3 : ∀ u ∈ rc, isIn u.pt (hsh x k) = false) (hk : k ∈ rks (ra ++ p :: rc)) : ∃ la lc, p.ks = la ++ k :: lc ∧ k ∉ la := by
  obtain ⟨la, lc, e⟩ := List.append_of_mem ((h.filter h2 h3).1 hk)
  have hn := h.nodp
  rw [e] at hn
  exact ⟨la, lc, e, (nodup_mid hn).1⟩

set_option maxHeartbeats 4000000 in
theorem RPut_old (B r x g pr cap : Nat) (ps : List Rp) (k : ByteArray) (w : World) (hR : RefD w B r x g pr cap ps) (hks : k.size ≤ maxLen) (hk : k ∈ rks ps) :
    Calls Try.prog 11 #[ptr r, .string k] w fun e w' => e = .returned (.tuple #[]) ∧ Below w.heap.size w w' := by
  have hx := hR.seed
  have HOf := fun w => refOf_hsh x k w hks hx
  obtain ⟨ra, p, rc, eP, hi, h2, h3, hix⟩ := hR.parts (hsh x k)
  subst eP
  obtain ⟨la, lc, eK, hla⟩ := hR.mid h2 h3 hk
  have hpa := part_any B r x g pr cap _ (hsh x k) w hR (hsh_lt x k)
  rw [hix] at hpa
  have hfew := hR.few
  have hlen : ra.length < (ra ++ p :: rc).length := by simp
  have hAt : ∀ w', Below w.heap.size w w' → Calls Try.prog 36 #[.slice p.a p.n p.cap, .string k] w' fun e w'' => e = .returned (.int .i64 (la.length : Nat)) ∧ w'' = w' := fun w' hb => by
    have h0 := OwnR.low ((hR.keep hb).key p (by simp)) (Nat.zero_le _)
    have h1 := OwnS.len (hR.key p (by simp))
    have h2 := hR.lep
    rw [eK] at h0
    exact at_yes p.a p.n p.cap la lc k w' h0 (by omega) hla
  have HC2 : Hid (∀ w', Below w.heap.size w w' → w'.cell? ⟨r, 2, none⟩ = some (.slice (some ⟨pr, 0, none⟩) (ra ++ p :: rc).length cap) ∧ w'.cell? ⟨pr, ra.length * 3 + 2, none⟩ = some (.slice p.a p.n p.cap)) := fun w' hb => ⟨(hR.keep hb).cpar, ((hR.keep hb).at (j := ra.length) (p := p) get_mid).2.2⟩
  have hc0 := hR.cseed
  have hla : (0 : Int) ≤ (la.length : Nat) := by omega
  generalize hsh x k = h at HOf hpa
  generalize p.a = aa at hAt HC2
  generalize p.n = nn at hAt HC2
  generalize p.cap = cc at hAt HC2
  generalize (ra ++ p :: rc).length = n at hfew hlen HC2
  generalize ra.length = m at hpa hlen HC2
  generalize la.length = j at hAt hla
  have hmn : (m : Int) < n := by omega
  clear hR hk hks hi h2 h3 hix eK
  go_enter Try.func11, Try.ntmps11
  go_wp2_with fail
  refine (HOf _).mono ?_
  rintro e w ⟨rfl, rfl⟩
  go_wp2_with fail
  refine hpa.mono ?_
  rintro e w1 ⟨rfl, hb1⟩
  have HB1 : Hid (Below w.heap.size w w1) := hb1
  obtain ⟨u1, u2⟩ := HC2.out w1 hb1
  have hat := hAt w1 hb1
  clear hpa hAt HOf hb1 hc0
  go_wp2_with fail
  refine hat.mono ?_
  rintro e w1 ⟨rfl, rfl⟩
  clear hat
  go_wp2
  refine bodyPost_ret (results_none rfl _ _ _) rfl ?_
  exact ⟨rfl, HB1.out⟩

set_option maxHeartbeats 4000000 in
theorem RDelete_no (B r x g pr cap : Nat) (ps : List Rp) (k : ByteArray) (w : World) (hR : RefD w B r x g pr cap ps) (hks : k.size ≤ maxLen) (hk : k ∉ rks ps) :
    Calls Try.prog 52 #[ptr r, .string k] w fun e w' => e = .returned (.bool false) ∧ Below w.heap.size w w' := by
  have hx := hR.seed
  have HOf := fun w => refOf_hsh x k w hks hx
  obtain ⟨ra, p, rc, eP, hi, h2, h3, hix⟩ := hR.parts (hsh x k)
  subst eP
  have hpa := part_any B r x g pr cap _ (hsh x k) w hR (hsh_lt x k)
  rw [hix] at hpa
  have hfew := hR.few
  have hlen : ra.length < (ra ++ p :: rc).length := by simp
  have hAt : ∀ w', Below w.heap.size w w' → Calls Try.prog 36 #[.slice p.a p.n p.cap, .string k] w' fun e w'' => e = .returned (.int .i64 (-1)) ∧ w'' = w' := fun w' hb => by
    have h0 := OwnR.low ((hR.keep hb).key p (by simp)) (Nat.zero_le _)
    have h1 := OwnS.len (hR.key p (by simp))
    have h2 := hR.lep
    exact at_no p.a p.n p.cap p.ks k w' h0 (by omega) (fun hm => hk (by rw [rks_append, rks_cons]; simp [hm]))
  have HC2 : Hid (∀ w', Below w.heap.size w w' → w'.cell? ⟨r, 2, none⟩ = some (.slice (some ⟨pr, 0, none⟩) (ra ++ p :: rc).length cap) ∧ w'.cell? ⟨pr, ra.length * 3 + 2, none⟩ = some (.slice p.a p.n p.cap)) := fun w' hb => ⟨(hR.keep hb).cpar, ((hR.keep hb).at (j := ra.length) (p := p) get_mid).2.2⟩
  have hc0 := hR.cseed
  generalize hsh x k = h at HOf hpa
  generalize p.a = aa at hAt HC2
  generalize p.n = nn at hAt HC2
  generalize p.cap = cc at hAt HC2
  generalize (ra ++ p :: rc).length = n at hfew hlen HC2
  generalize ra.length = m at hpa hlen HC2
  have hmn : (m : Int) < n := by omega
  clear hR hk hks hi h2 h3 hix
  go_enter Try.func52, Try.ntmps52
  go_wp2_with fail
  refine (HOf _).mono ?_
  rintro e w ⟨rfl, rfl⟩
  go_wp2_with fail
  refine hpa.mono ?_
  rintro e w1 ⟨rfl, hb1⟩
  have HB1 : Hid (Below w.heap.size w w1) := hb1
  obtain ⟨u1, u2⟩ := HC2.out w1 hb1
  have hat := hAt w1 hb1
  clear hpa hAt HOf hb1 hc0
  go_wp2_with fail
  refine hat.mono ?_
  rintro e w1 ⟨rfl, rfl⟩
  clear hat
  go_wp2
  go_ret
  exact ⟨rfl, HB1.out⟩

theorem rdel_end (B r x g pr cap : Nat) (ra rc : List Rp) (p : Rp) (k : ByteArray) (la lc : List ByteArray) (w w8 : World) (a8 : Option Addr) (n8 c8 : Nat) (hR : RefD w B r x g pr cap (ra ++ p :: rc)) (hb : Below w.heap.size w w8) (hO : OwnS w8 w.heap.size a8 n8 c8 (la ++ lc)) (eK : p.ks = la ++ k :: lc) :
    ∃ ps', RefD (w8.setCell ⟨pr, ra.length * 3 + 2, none⟩ (.slice a8 n8 c8)) B r x g pr cap ps' ∧ rsh ps' = rsh (ra ++ p :: rc) ∧ (rks (ra ++ p :: rc)).Perm (k :: rks ps') ∧ Mv rtag w (w8.setCell ⟨pr, ra.length * 3 + 2, none⟩ (.slice a8 n8 c8)) ∧ Below B w (w8.setCell ⟨pr, ra.length * 3 + 2, none⟩ (.slice a8 n8 c8)) := by
  have hB : B ≤ w.heap.size := by have h1 := hR.low; have h2 := hR.lt; omega
  have hp : (rks (ra ++ p :: rc)).Perm (k :: rks (ra ++ ⟨p.l, p.q, a8, n8, c8, la ++ lc⟩ :: rc)) := by
    rw [rks_append, rks_append, rks_cons, rks_cons, eK]
    show (rks ra ++ ((la ++ k :: lc) ++ rks rc)).Perm (k :: (rks ra ++ ((la ++ lc) ++ rks rc)))
    refine List.Perm.trans (List.Perm.append_left _ ((List.perm_middle).append_right _)) ?_
    exact List.perm_middle
  have hnd := hp.nodup_iff.1 hR.nod
  have hll := hp.length_eq
  rw [List.length_cons] at hll
  have hle := hR.le
  have hin : ∀ y ∈ la ++ lc, y ∈ p.ks := fun y hy => by
    rw [eK]
    rcases List.mem_append.1 hy with hy | hy <;> simp [hy]
  obtain ⟨h1, h2, h3⟩ := hR.turn hb (OwnR.low hO hB) (fun y hy => hR.own p (by simp) y (hin y hy)) (List.nodup_cons.1 hnd).2 (fun y hy => hR.siz y (by rw [rks_append, rks_cons]; simp [hin y hy])) (by omega)
  exact ⟨_, h1, by unfold rsh; rw [List.map_append, List.map_append]; rfl, hp, h2, h3⟩

set_option maxHeartbeats 8000000 in
theorem RDelete_yes (B r x g pr cap : Nat) (ps : List Rp) (k : ByteArray) (w : World) (hR : RefD w B r x g pr cap ps) (hks : k.size ≤ maxLen) (hk : k ∈ rks ps) :
    Calls Try.prog 52 #[ptr r, .string k] w fun e w' => e = .returned (.bool true) ∧ ∃ ps', RefD w' B r x g pr cap ps' ∧ rsh ps' = rsh ps ∧ (rks ps).Perm (k :: rks ps') ∧ Below B w w' ∧ Mv rtag w w' := by
  have hx := hR.seed
  have HOf := fun w => refOf_hsh x k w hks hx
  obtain ⟨ra, p, rc, eP, hi, h2, h3, hix⟩ := hR.parts (hsh x k)
  subst eP
  obtain ⟨la, lc, eK, hla⟩ := hR.mid h2 h3 hk
  have hpa := part_any B r x g pr cap _ (hsh x k) w hR (hsh_lt x k)
  rw [hix] at hpa
  have hfew := hR.few
  have hB : B ≤ w.heap.size := by have h1 := hR.low; have h2 := hR.lt; omega
  have hlen : ra.length < (ra ++ p :: rc).length := by simp
  have hL := OwnS.len (hR.key p (by simp))
  have hLe := hR.lep
  rw [eK, List.length_append, List.length_cons] at hL hLe
  have hAt : ∀ w', Below w.heap.size w w' → Calls Try.prog 36 #[.slice p.a p.n p.cap, .string k] w' fun e w'' => e = .returned (.int .i64 (la.length : Nat)) ∧ w'' = w' := fun w' hb => by
    have h0 := OwnR.low ((hR.keep hb).key p (by simp)) (Nat.zero_le _)
    rw [eK] at h0
    exact at_yes p.a p.n p.cap la lc k w' h0 (by omega) hla
  have HC2 : Hid (∀ w', Below w.heap.size w w' → w'.cell? ⟨r, 2, none⟩ = some (.slice (some ⟨pr, 0, none⟩) (ra ++ p :: rc).length cap) ∧ w'.cell? ⟨pr, ra.length * 3 + 2, none⟩ = some (.slice p.a p.n p.cap) ∧ w'.frozen? ⟨pr, ra.length * 3 + 2, none⟩ = false) := fun w' hb => by
    refine ⟨(hR.keep hb).cpar, ((hR.keep hb).at (j := ra.length) (p := p) get_mid).2.2, ?_⟩
    obtain ⟨-, -, cur, h1⟩ := OwnR.lt (hR.keep hb).row (k := pr) rfl
    simp [World.frozen?, h1]
  have HRp : Hid (r ≠ pr) := by
    rintro rfl
    obtain ⟨-, -, cur, h1⟩ := OwnR.lt hR.row (k := r) rfl
    rw [hR.blk] at h1
    simp at h1
  have HRd : Hid (∀ w', Below w.heap.size w w' → RdR w' p.a p.n p.cap (scells (la ++ k :: lc))) := fun w' hb => by
    have := OwnR.rd ((hR.keep hb).key p (by simp))
    rw [eK] at this
    exact this
  have HFin : Hid (∀ w1 w8 a8 n8 c8, Below w.heap.size w w1 → Below w1.heap.size w1 w8 → OwnS w8 w1.heap.size a8 n8 c8 (la ++ lc) → ∃ ps', RefD (w8.setCell ⟨pr, ra.length * 3 + 2, none⟩ (.slice a8 n8 c8)) B r x g pr cap ps' ∧ rsh ps' = rsh (ra ++ p :: rc) ∧ (rks (ra ++ p :: rc)).Perm (k :: rks ps') ∧ Below B w (w8.setCell ⟨pr, ra.length * 3 + 2, none⟩ (.slice a8 n8 c8)) ∧ Mv rtag w (w8.setCell ⟨pr, ra.length * 3 + 2, none⟩ (.slice a8 n8 c8))) := by
    intro w1 w8 a8 n8 c8 hb1 hb8 hO
    obtain ⟨ps', k1, k2, k3, k4, k5⟩ := rdel_end B r x g pr cap ra rc p k la lc w1 w8 a8 n8 c8 (hR.keep hb1) hb8 hO eK
    exact ⟨ps', k1, k2, k3, (hb1.mono hB).trans k5, (Mv.of_below hb1).trans k4⟩
  have hc0 := hR.cseed
  have hla : (0 : Int) ≤ (la.length : Nat) := by omega
  have hlb : ((la.length : Nat) : Int) + 1 ≤ (p.n : Nat) := by omega
  have hnm : p.n ≤ 1000000 := by omega
  have HTk : Hid ((scells (la ++ k :: lc)).take la.length = scells la ∧ (scells (la ++ k :: lc)).drop (la.length + 1) = scells lc ∧ lc.length = p.n - (la.length + 1)) := by
    refine ⟨?_, ?_, by omega⟩
    · rw [scells, ← List.map_take, List.take_left]; rfl
    · have e : scells (la ++ k :: lc) = (scells la ++ [.string k]) ++ scells lc := by simp [scells]
      rw [e, List.drop_left' (by simp [scells])]
  generalize hsh x k = h at HOf hpa
  generalize p.a = aa at hAt HC2 HRd
  generalize p.n = nn at hAt HC2 HRd hlb hL HTk hnm
  generalize p.cap = cc at hAt HC2 HRd
  generalize hN : (ra ++ p :: rc).length = n at hfew hlen HC2
  generalize ra.length = m at hpa hlen HC2 HFin
  generalize hJ : la.length = j at hAt hla hlb hL HTk
  have hmn : (m : Int) < n := by omega
  clear hR hk hks hi h2 h3 hix eK hLe hN hJ hB
  have hjn : j ≤ nn := by omega
  have hj1 : j + 1 ≤ nn := by omega
  go_enter Try.func52, Try.ntmps52
  go_wp2_with fail
  refine (HOf _).mono ?_
  rintro e w ⟨rfl, rfl⟩
  go_wp2_with fail
  refine hpa.mono ?_
  rintro e w1 ⟨rfl, hb1⟩
  have HB1 : Hid (Below w.heap.size w w1) := hb1
  obtain ⟨u1, u2, -⟩ := HC2.out w1 hb1
  have hat := hAt w1 hb1
  clear hpa hAt HOf hb1 hc0
  go_wp2_with fail
  refine hat.mono ?_
  rintro e w1 ⟨rfl, rfl⟩
  clear hat
  have hRd := HRd.out w1 HB1.out
  obtain ⟨a1, c1, s1, hR1⟩ := hRd.slice_h oneS j hjn
  obtain ⟨a2, c2, s2, hR2⟩ := hRd.slice_l oneS (j + 1) hj1
  replace s2 : ∀ wx, (Instr.sliceAt 39 (.slice aa nn cc) (some (.int .i64 ((j : Int) + 1))) none none).run Try.prog wx = .ok (.slice a2 (nn - (j + 1)) c2) wx := s2
  have hwr : IntKind.i64.wrap ((j : Int) + 1) = (j : Int) + 1 := by unfold IntKind.wrap; simp [IntKind.bits, IntKind.signed]; omega
  rw [HTk.out.1] at hR1
  rw [HTk.out.2.1] at hR2
  have HR1 : Hid (RdR w1 a1 j c1 (scells la)) := hR1
  have HR2 : Hid (RdR w1 a2 (nn - (j + 1)) c2 (scells lc)) := hR2
  have HOc : Hid ((∀ u ∈ scells la, u.oneCell' = true) ∧ (∀ u ∈ scells lc, u.oneCell' = true)) := by
    refine ⟨?_, ?_⟩ <;> (intro u hu; obtain ⟨s, -, rfl⟩ := List.mem_map.1 hu; rfl)
  have HNn : Hid ((0 + j) * 16 ≤ 140737488355328 ∧ 0 + j ≤ maxLen ∧ (0 + j + (nn - (j + 1))) * 16 ≤ 140737488355328 ∧ 0 + j + (nn - (j + 1)) ≤ maxLen) := ⟨by omega, by unfold maxLen; omega, by omega, by unfold maxLen; omega⟩
  have HX0 : Hid (Below w1.heap.size w1 w1.drew) := below_drewN w1 1
  have HX1 : Hid (Below w1.heap.size w1 (w1.alloc (.cells #[] 9)).drew) := (alloc_below w1 _).drew
  have HO1 : Hid (OwnR (w1.alloc (.cells #[] 9)).drew w1.heap.size 9 1 (some ⟨w1.heap.size, 0, none⟩) 0 0 []) := OwnR.keep (OwnR.made0 w1 9 w1.heap.size (Nat.le_refl _)) (below_drewN _ 1)
  have HCs : Hid (∀ w', Below w1.heap.size w1 w' → w'.cell? ⟨r, 2, none⟩ = some (.slice (some ⟨pr, 0, none⟩) n cap) ∧ w'.cell? ⟨pr, m * 3 + 2, none⟩ = some (.slice aa nn cc) ∧ w'.frozen? ⟨pr, m * 3 + 2, none⟩ = false) := fun w' hb => HC2.out w' (HB1.out.trans (hb.mono HB1.out.size))
  have HSt : Hid (∀ w8 v, Below w1.heap.size w1 w8 → (w8.setCell ⟨pr, m * 3 + 2, none⟩ v).cell? ⟨r, 2, none⟩ = some (.slice (some ⟨pr, 0, none⟩) n cap)) := fun w8 v hb => by
    have h0 := (HCs.out w8 hb).1
    have hS : Stay w8 (w8.setCell ⟨pr, m * 3 + 2, none⟩ v) [pr] := Stay.set
    have h1 : (w8.setCell ⟨pr, m * 3 + 2, none⟩ v).heap[r]? = w8.heap[r]? := hS.block r (World.block_lt_of_cell? _ _ h0) (by simpa using HRp.out)
    simp only [World.cell?, h1]
    exact h0
  have HEnd : Hid (∀ w8 a8 c8, OwnR w8 w1.heap.size 9 1 a8 (0 + j + (nn - (j + 1))) c8 ([] ++ scells la ++ scells lc) → OwnS w8 w1.heap.size a8 (j + (nn - (j + 1))) c8 (la ++ lc)) := fun w8 a8 c8 ho => by
    rw [Nat.zero_add] at ho
    show OwnR _ _ _ _ _ _ _ _
    rw [scells, List.map_append]
    exact ho
  clear hR1 hR2 hRd HRd HTk
  go_upto_region 6 with fail
  go_cut [4] from 36 to 52 (fun v wx => v = .bool false ∧ ∃ w8 a8 n8 c8, Hid (wx = w8.setCell ⟨pr, m * 3 + 2, none⟩ (.slice a8 n8 c8)) ∧ Hid (Below w1.heap.size w1 w8) ∧ Hid (OwnS w8 w1.heap.size a8 n8 c8 (la ++ lc)))
  case first =>
    go_region_held3 (fun w' => w'.cell? ⟨r, 2, none⟩ = some (.slice (some ⟨pr, 0, none⟩) n cap)) (first | exact (HCs.out _ HX0.out).1 | exact (HCs.out _ HX1.out).1 | exact HSt.out _ _ HX8.out | exact (HCs.out _ HX8.out).1 | exact (HCs.out _ HX7.out).1) (first
      | (refine step_append_p rfl (.tmp 41) (.tmp 44) rfl eltS w1.heap.size (by simp [Act.eval] <;> rfl) HO1.out (by simp [Act.eval] <;> rfl) (HR1.out.keep HX1.out) HOc.out.1 HNn.out.1 HNn.out.2.1 HX1.out.size ?_; intro a7 n7 c7 w7 hn7 HO7 HG7; subst hn7; have HX7 : Hid (Below w1.heap.size w1 w7) := HX1.out.trans (OwnR.below HO1.out HG7.out HX1.out.size); clear HG7)
      | (refine step_append_p rfl (.tmp 45) (.tmp 49) rfl eltS w1.heap.size (by simp [Act.eval] <;> rfl) HO7.out (by simp [Act.eval] <;> rfl) (HR2.out.keep HX7.out) HOc.out.2 HNn.out.2.2.1 HNn.out.2.2.2 HX7.out.size ?_; intro a8 n8 c8 w8 hn8 HO8 HG8; subst hn8; have HX8 : Hid (Below w1.heap.size w1 w8) := HX7.out.trans (OwnR.below HO7.out HG8.out HX7.out.size); have HSn : Hid (OwnS w8 w1.heap.size a8 (j + (nn - (j + 1))) c8 (la ++ lc)) := HEnd.out _ _ _ HO8.out; have hc8 := (HCs.out _ HX8.out).2.1; have hf8 := (HCs.out _ HX8.out).2.2; clear HG8))
    all_goals
      go_wp2
      go_meet
      exact ⟨rfl, _, _, _, _, rfl, HX8, HSn⟩
  case rest =>
  obtain ⟨rfl, w8, a8, n8, c8, HE, HX8, HO8⟩ := hcut
  go_wp2
  go_ret
  rw [HE.out]
  exact ⟨rfl, HFin.out w1 w8 a8 n8 c8 HB1.out HX8.out HO8.out⟩

/-- Is a key there? -/
def hasK (es : List En) (k : ByteArray) : Bool := es.any fun e => decide (e.1 = k)
theorem hasK_iff {es : List En} {k : ByteArray} : hasK es k = true ↔ k ∈ keysOf es := by
  unfold hasK
  rw [List.any_eq_true]
  constructor
  · rintro ⟨e, he, h⟩
    exact List.mem_map.2 ⟨e, he, of_decide_eq_true h⟩
  · intro h
    obtain ⟨e, he, h1⟩ := List.mem_map.1 h
    exact ⟨e, he, decide_eq_true h1⟩
theorem hasK_no {es : List En} {k : ByteArray} (h : k ∉ keysOf es) : hasK es k = false := by
  cases e : hasK es k with
  | false => rfl
  | true => exact absurd (hasK_iff.1 e) h
theorem hasK_perm {es fs : List En} (h : es.Perm fs) (k : ByteArray) : hasK es k = hasK fs k := by
  cases e : hasK fs k with
  | true => exact hasK_iff.2 ((h.map (·.1)).mem_iff.2 (hasK_iff.1 e))
  | false => exact hasK_no (fun h2 => by have := hasK_iff.2 ((h.map (·.1)).mem_iff.1 h2); rw [e] at this; cases this)
/-- What is there behind Put; behind Delete; what Get tells. -/
def putE (es : List En) (k : ByteArray) (v : Int) : List En := if hasK es k = true then es.map (fun e => if e.1 = k then (k, v) else e) else es ++ [(k, v)]
def delE (es : List En) (k : ByteArray) : List En := es.filter fun e => decide (e.1 ≠ k)
def getE (es : List En) (k : ByteArray) : Int := ((es.find? fun e => decide (e.1 = k)).map (·.2)).getD 0
theorem putE_perm {es fs : List En} (h : es.Perm fs) (k : ByteArray) (v : Int) : (putE es k v).Perm (putE fs k v) := by
  unfold putE
  rw [hasK_perm h]
  split
  · exact h.map _
  · exact h.append_right _
theorem delE_perm {es fs : List En} (h : es.Perm fs) (k : ByteArray) : (delE es k).Perm (delE fs k) := h.filter _
theorem putE_len (es : List En) (k : ByteArray) (v : Int) : (putE es k v).length ≤ es.length + 1 := by
  unfold putE
  split
  · rw [List.length_map]; omega
  · rw [List.length_append]; simp
theorem delE_len (es : List En) (k : ByteArray) : (delE es k).length ≤ es.length := List.length_filter_le _ _
theorem not_of_nodup {a c : List En} {k : ByteArray} {u : Int} (hn : (keysOf (a ++ (k, u) :: c)).Nodup) : k ∉ keysOf a ∧ k ∉ keysOf c := by
  rw [keysOf_append] at hn
  replace hn : (keysOf a ++ k :: keysOf c).Nodup := hn
  rw [List.nodup_append, List.nodup_cons] at hn
  exact ⟨fun h => hn.2.2 k h k (by simp) rfl, hn.2.1.1⟩
theorem map_same {a : List En} {k : ByteArray} {v : Int} (h : k ∉ keysOf a) : a.map (fun e => if e.1 = k then (k, v) else e) = a := by
  conv => rhs; rw [← List.map_id a]
  refine List.map_congr_left fun e he => ?_
  rw [if_neg (fun e2 => h (List.mem_map.2 ⟨e, he, e2⟩))]
  rfl
theorem filter_same {a : List En} {k : ByteArray} (h : k ∉ keysOf a) : delE a k = a := by
  unfold delE
  rw [List.filter_eq_self]
  intro e he
  exact decide_eq_true (fun e2 => h (List.mem_map.2 ⟨e, he, e2⟩))
theorem putE_old {a c : List En} {k : ByteArray} {u v : Int} (hn : (keysOf (a ++ (k, u) :: c)).Nodup) : putE (a ++ (k, u) :: c) k v = a ++ (k, v) :: c := by
  obtain ⟨h1, h2⟩ := not_of_nodup hn
  unfold putE
  rw [if_pos (hasK_iff.2 (by simp [keysOf])), List.map_append, List.map_cons, map_same h1, map_same h2, if_pos rfl]
theorem delE_old {a c : List En} {k : ByteArray} {u : Int} (hn : (keysOf (a ++ (k, u) :: c)).Nodup) : delE (a ++ (k, u) :: c) k = a ++ c := by
  obtain ⟨h1, h2⟩ := not_of_nodup hn
  have e1 := filter_same h1
  have e2 := filter_same h2
  unfold delE at e1 e2 ⊢
  rw [List.filter_append, List.filter_cons_of_neg (by simp), e1, e2]
theorem key_split {es : List En} {k : ByteArray} (h : k ∈ keysOf es) : ∃ a u c, es = a ++ (k, u) :: c := by
  obtain ⟨⟨k', u⟩, he, rfl⟩ := List.mem_map.1 h
  obtain ⟨a, c, e⟩ := List.append_of_mem he
  exact ⟨a, u, c, e⟩
theorem getE_mem {es : List En} (hn : (keysOf es).Nodup) {k : ByteArray} {v : Int} (h : (k, v) ∈ es) : getE es k = v := by
  unfold getE
  have hs : (es.find? fun e => decide (e.1 = k)).isSome = true := by rw [List.find?_isSome]; exact ⟨_, h, by simp⟩
  obtain ⟨e, he⟩ := Option.isSome_iff_exists.1 hs
  have h1 := List.mem_of_find?_eq_some he
  have h2 : e.1 = k := by simpa using List.find?_some he
  rw [he]
  obtain ⟨k', u⟩ := e
  simp only at h2
  subst h2
  exact val_one hn h1 h
theorem getE_none {es : List En} {k : ByteArray} (h : k ∉ keysOf es) : getE es k = 0 := by
  unfold getE
  rw [List.find?_eq_none.2]
  · rfl
  · intro e he hd
    exact h (List.mem_map.2 ⟨e, he, by simpa using hd⟩)

theorem PutD (B d x : Nat) (D : Dg) (k : ByteArray) (v : Int) (w : World) (hD : Dct w B d x D) (hks : k.size ≤ maxLen) (hle : D.es.length < 1000000) :
    Calls Try.prog 13 #[ptr d, .string k, .int .i64 v] w fun e w' => e = .returned (.int .i64 0) ∧ ∃ D', Turn w w' B d x D D' ∧ D'.es.Perm (putE D.es k v) := by
  by_cases h : k ∈ keysOf D.es
  · obtain ⟨a, u, c, e⟩ := key_split h
    refine (PutD_old B d x D k u v w hD (by rw [e]; simp)).mono ?_
    rintro en w' ⟨rfl, D', hT, -, -, A, C, e1, e2⟩
    refine ⟨rfl, D', hT, ?_⟩
    have hn := hD.nodk
    rw [e1] at hn ⊢
    rw [putE_old hn, e2]
  · refine (PutD_new B d x D k v w hD hks h hle).mono ?_
    rintro en w' ⟨rfl, D', hT, -, hp⟩
    refine ⟨rfl, D', hT, ?_⟩
    unfold putE
    rw [if_neg (by rw [hasK_no h]; decide)]
    exact hp
theorem DelD (B d x : Nat) (D : Dg) (k : ByteArray) (w : World) (hD : Dct w B d x D) (hks : k.size ≤ maxLen) :
    Calls Try.prog 29 #[ptr d, .string k] w fun e w' => e = .returned (.bool (hasK D.es k)) ∧ ∃ D', Turn w w' B d x D D' ∧ D'.es.Perm (delE D.es k) := by
  by_cases h : k ∈ keysOf D.es
  · rw [hasK_iff.2 h]
    refine (DeleteD_yes B d x D k w hD h).mono ?_
    rintro en w' ⟨rfl, D', hT, -, -, u, hp⟩
    refine ⟨rfl, D', hT, ?_⟩
    have h1 := delE_perm hp k
    have hn : (keysOf ([] ++ (k, u) :: D'.es)).Nodup := (hp.map (·.1)).nodup_iff.1 hD.nodk
    have h2 := delE_old hn
    rw [List.nil_append] at h2
    rw [h2] at h1
    exact h1.symm
  · rw [hasK_no h]
    refine (DeleteD_no B d x D k w hD hks h).mono ?_
    rintro en w' ⟨rfl, hb⟩
    exact ⟨rfl, D, Turn.refl hD hb, by rw [filter_same h]⟩
theorem GetD (B d x : Nat) (D : Dg) (k : ByteArray) (w : World) (hD : Dct w B d x D) (hks : k.size ≤ maxLen) :
    Calls Try.prog 30 #[ptr d, .string k] w fun e w' => e = .returned (.tuple #[.int .i64 (getE D.es k), .bool (hasK D.es k)]) ∧ Below w.heap.size w w' := by
  by_cases h : k ∈ keysOf D.es
  · obtain ⟨a, u, c, e⟩ := key_split h
    have hm : (k, u) ∈ D.es := by rw [e]; simp
    rw [hasK_iff.2 h, getE_mem hD.nodk hm]
    exact Get_dsome B d x D k u w hD hks hm
  · rw [hasK_no h, getE_none h]
    exact Get_dnone B d x D k w hD hks h

/-- Two dicts, side by side: what each has. -/
def Pr (w : World) (B d x : Nat) (e1 : List En) (d' y : Nat) (e2 : List En) : Prop := ∃ D1 D2, Dct w B d x D1 ∧ Dct w B d' y D2 ∧ D1.es.Perm e1 ∧ D2.es.Perm e2 ∧ (∀ j ∈ D1.fp d, j ∉ D2.fp d')
theorem Pr.symm {w : World} {B d x d' y : Nat} {e1 e2 : List En} (h : Pr w B d x e1 d' y e2) : Pr w B d' y e2 d x e1 := by
  obtain ⟨D1, D2, h1, h2, h3, h4, h5⟩ := h
  exact ⟨D2, D1, h2, h1, h4, h3, fun j hj hj2 => h5 j hj2 hj⟩
theorem Pr.keep {w wn : World} {B d x d' y : Nat} {e1 e2 : List En} (h : Pr w B d x e1 d' y e2) (hb : Below w.heap.size w wn) : Pr wn B d x e1 d' y e2 := by
  obtain ⟨D1, D2, h1, h2, h3, h4, h5⟩ := h
  exact ⟨D1, D2, h1.keep hb, h2.keep hb, h3, h4, h5⟩
theorem Pr.turn {w w' : World} {B d x d' y : Nat} {D1 D1' D2 : Dg} {e1 e2 : List En} (h1 : Dct w B d x D1) (h2 : Dct w B d' y D2) (h5 : ∀ j ∈ D1.fp d, j ∉ D2.fp d') (hT : Turn w w' B d x D1 D1') (p1 : D1'.es.Perm e1) (p2 : D2.es.Perm e2) : Pr w' B d x e1 d' y e2 ∧ Below B w w' := by
  refine ⟨⟨D1', D2, hT.dct, h2.stay hT.stay (fun k hk hk2 => h5 k hk2 hk), p1, p2, fun j hj hj2 => ?_⟩, hT.below h1⟩
  rcases hT.fps j hj with h | h
  · exact h5 j h hj2
  · have := (h2.fplt j hj2).2; omega
theorem Pr.put (B d x d' y : Nat) (e1 e2 : List En) (k : ByteArray) (v : Int) (w : World) (h : Pr w B d x e1 d' y e2) (hks : k.size ≤ maxLen) (hle : e1.length < 1000000) :
    Calls Try.prog 13 #[ptr d, .string k, .int .i64 v] w fun e w' => e = .returned (.int .i64 0) ∧ Pr w' B d x (putE e1 k v) d' y e2 ∧ Below B w w' := by
  obtain ⟨D1, D2, h1, h2, h3, h4, h5⟩ := h
  refine (PutD B d x D1 k v w h1 hks (by rw [h3.length_eq]; exact hle)).mono ?_
  rintro e w' ⟨rfl, D', hT, hp⟩
  exact ⟨rfl, Pr.turn h1 h2 h5 hT (hp.trans (putE_perm h3 k v)) h4⟩
theorem Pr.del (B d x d' y : Nat) (e1 e2 : List En) (k : ByteArray) (w : World) (h : Pr w B d x e1 d' y e2) (hks : k.size ≤ maxLen) :
    Calls Try.prog 29 #[ptr d, .string k] w fun e w' => e = .returned (.bool (hasK e1 k)) ∧ Pr w' B d x (delE e1 k) d' y e2 ∧ Below B w w' := by
  obtain ⟨D1, D2, h1, h2, h3, h4, h5⟩ := h
  rw [← hasK_perm h3]
  refine (DelD B d x D1 k w h1 hks).mono ?_
  rintro e w' ⟨rfl, D', hT, hp⟩
  exact ⟨rfl, Pr.turn h1 h2 h5 hT (hp.trans (delE_perm h3 k)) h4⟩
theorem getE_perm {es fs : List En} (h : es.Perm fs) (hn : (keysOf es).Nodup) (k : ByteArray) : getE es k = getE fs k := by
  by_cases hk : k ∈ keysOf es
  · obtain ⟨a, u, c, e⟩ := key_split hk
    have hm : (k, u) ∈ es := by rw [e]; simp
    rw [getE_mem hn hm, getE_mem ((h.map (·.1)).nodup_iff.1 hn) (h.mem_iff.1 hm)]
  · rw [getE_none hk, getE_none (fun h2 => hk ((h.map (·.1)).mem_iff.2 h2))]
theorem Pr.get (B d x d' y : Nat) (e1 e2 : List En) (k : ByteArray) (w : World) (h : Pr w B d x e1 d' y e2) (hks : k.size ≤ maxLen) :
    Calls Try.prog 30 #[ptr d, .string k] w fun e w' => e = .returned (.tuple #[.int .i64 (getE e1 k), .bool (hasK e1 k)]) ∧ Below w.heap.size w w' := by
  obtain ⟨D1, D2, h1, h2, h3, h4, h5⟩ := h
  rw [← hasK_perm h3, ← getE_perm h3 h1.nodk]
  exact GetD B d x D1 k w h1 hks
theorem Pr.len (B d x d' y : Nat) (e1 e2 : List En) (w : World) (h : Pr w B d x e1 d' y e2) : Calls Try.prog 31 #[ptr d] w fun e w' => e = .returned (.int .i64 (e1.length : Nat)) ∧ w' = w := by
  obtain ⟨D1, D2, h1, h2, h3, h4, h5⟩ := h
  rw [← h3.length_eq]
  exact Len_dict B d x D1 w h1
theorem Pr.keys (B d x d' y : Nat) (e1 e2 : List En) (w : World) (h : Pr w B d x e1 d' y e2) : Calls Try.prog 27 #[ptr d] w fun e w' => Below w.heap.size w w' ∧ ∃ a n c ks, e = .returned (.slice a n c) ∧ OwnS w' w.heap.size a n c ks ∧ ks.Perm (keysOf e1) := by
  obtain ⟨D1, D2, h1, h2, h3, h4, h5⟩ := h
  exact DKeys B d x D1.g D1.sh e1 w ⟨D1, h1, rfl, rfl, h3⟩

/-- The dict and the document's own are of one mind. -/
def Sd (w : World) (B d B' r x g : Nat) (sh : List Pt) (es : List En) : Prop := Dic w B d x g sh es ∧ Rf w B' r x g sh (keysOf es)
theorem Sd.keep {w w' : World} {B d B' r x g : Nat} {sh : List Pt} {es : List En} (h : Sd w B d B' r x g sh es) (hb : Below w.heap.size w w') : Sd w' B d B' r x g sh es := ⟨h.1.keep hb, h.2.keep hb⟩

theorem FAll (B r x g : Nat) (sh : List Pt) (ks : List ByteArray) (w : World) (hR : Rf w B r x g sh ks) : Calls Try.prog 45 #[ptr r] w fun e w' => Below w.heap.size w w' ∧ ∃ a n c ks', e = .returned (.slice a n c) ∧ OwnS w' w.heap.size a n c ks' ∧ ks'.Perm ks := by
  obtain ⟨pr, cap, ps, h, -, h3⟩ := hR
  refine (All_any B r x g pr cap ps w h).mono ?_
  rintro e w' ⟨hb, a, n, c, rfl, hO⟩
  exact ⟨hb, a, n, c, _, rfl, hO, h3⟩
theorem FBucket (B r x g : Nat) (sh : List Pt) (ks : List ByteArray) (c : Nat) (w : World) (hR : Rf w B r x g sh ks) (hc : c < 18446744073709551616) : Calls Try.prog 46 #[ptr r, .int .u64 c] w fun e w' => Below w.heap.size w w' ∧ ∃ a n cp ks', e = .returned (.slice a n cp) ∧ OwnS w' w.heap.size a n cp ks' ∧ ks'.Perm (bkt x g ks c) := by
  obtain ⟨pr, cap, ps, h, -, h3⟩ := hR
  refine (RBucket_any B r x g pr cap ps c w h hc).mono ?_
  rintro e w' ⟨hb, a, n, cp, rfl, hO⟩
  exact ⟨hb, a, n, cp, _, rfl, hO, bkt_perm h3 c⟩
theorem FScan (B r x g : Nat) (sh : List Pt) (ks : List ByteArray) (c : Nat) (count : Int) (w : World) (hR : Rf w B r x g sh ks) (hc : c < 18446744073709551616) : Calls Try.prog 49 #[ptr r, .int .u64 c, .int .i64 count] w fun e w' => Below w.heap.size w w' ∧ ∃ a n cp ks', e = .returned (.tuple #[.slice a n cp, .int .u64 ((scanP x g ks (cntC count) (10 * cntC count) [] c).2 : Nat)]) ∧ OwnS w' w.heap.size a n cp ks' ∧ ks'.Perm (scanP x g ks (cntC count) (10 * cntC count) [] c).1 := by
  obtain ⟨pr, cap, ps, h, -, h3⟩ := hR
  have hp := scanP_perm (x := x) (g := g) h3 (cntC count) (10 * cntC count) [] [] c (List.Perm.refl _)
  refine (RScan_any B r x g pr cap ps c count w h hc).mono ?_
  rintro e w' ⟨hb, a, n, cp, rfl, hO⟩
  exact ⟨hb, a, n, cp, _, by rw [hp.2], hO, hp.1⟩
theorem FHas (B r x g : Nat) (sh : List Pt) (ks : List ByteArray) (k : ByteArray) (w : World) (hR : Rf w B r x g sh ks) (hks : k.size ≤ maxLen) : Calls Try.prog 48 #[ptr r, .string k] w fun e w' => e = .returned (.bool (hasT ks k)) ∧ Below w.heap.size w w' := by
  obtain ⟨pr, cap, ps, h, -, h3⟩ := hR
  have e : hasT (rks ps) k = hasT ks k := by
    cases e : hasT ks k with
    | true => exact hasT_iff.2 (h3.mem_iff.2 (hasT_iff.1 e))
    | false => exact hasT_no (fun hm => by have := hasT_iff.2 (h3.mem_iff.1 hm); rw [e] at this; cases this)
  rw [← e]
  exact Has_any B r x g pr cap ps k w h hks
theorem FDelete_no (B r x g : Nat) (sh : List Pt) (ks : List ByteArray) (k : ByteArray) (w : World) (hR : Rf w B r x g sh ks) (hks : k.size ≤ maxLen) (hk : k ∉ ks) : Calls Try.prog 52 #[ptr r, .string k] w fun e w' => e = .returned (.bool false) ∧ Below w.heap.size w w' := by
  obtain ⟨pr, cap, ps, h, -, h3⟩ := hR
  exact RDelete_no B r x g pr cap ps k w h hks (fun hm => hk (h3.mem_iff.1 hm))
theorem FDelete_yes (B r x g : Nat) (sh : List Pt) (a c : List ByteArray) (k : ByteArray) (w : World) (hR : Rf w B r x g sh (a ++ k :: c)) (hks : k.size ≤ maxLen) : Calls Try.prog 52 #[ptr r, .string k] w fun e w' => e = .returned (.bool true) ∧ Below B w w' ∧ Mv rtag w w' ∧ Rf w' B r x g sh (a ++ c) := by
  obtain ⟨pr, cap, ps, h, h2, h3⟩ := hR
  refine (RDelete_yes B r x g pr cap ps k w h hks (h3.mem_iff.2 (by simp))).mono ?_
  rintro e w' ⟨rfl, ps', k1, k2, k3, k4, k5⟩
  exact ⟨rfl, k4, k5, pr, cap, ps', k1, by rw [k2, h2], List.Perm.cons_inv (a := k) ((k3.symm.trans h3).trans List.perm_middle)⟩
theorem FPut_old (B r x g : Nat) (sh : List Pt) (ks : List ByteArray) (k : ByteArray) (w : World) (hR : Rf w B r x g sh ks) (hks : k.size ≤ maxLen) (hk : k ∈ ks) : Calls Try.prog 11 #[ptr r, .string k] w fun e w' => e = .returned (.tuple #[]) ∧ Below w.heap.size w w' := by
  obtain ⟨pr, cap, ps, h, -, h3⟩ := hR
  exact RPut_old B r x g pr cap ps k w h hks (h3.mem_iff.2 hk)

/-- Two rows of the same keys: the law's bag says so. -/
theorem Bag_perm (a a' : Option Addr) (n n' cap cap' : Nat) (ls ls' : List ByteArray) (w : World) (hO : OwnS w 0 a n cap ls) (hO' : OwnS w 0 a' n' cap' ls') (hp : ls.Perm ls') (hn : ls.length ≤ 1000000) :
    Calls Try.prog 25 #[.slice a n cap, .slice a' n' cap'] w fun e w' => e = .returned (.bool true) ∧ Below w.heap.size w w' := by
  have h1 := OwnS.len hO
  have h2 := OwnS.len hO'
  have h3 := hp.length_eq
  have e : n' = n := by omega
  subst e
  exact Bag_any a a' n' cap cap' ls ls' w hO hO' (by omega) hp
theorem scanP_len (x g : Nat) (ks : List ByteArray) (cnt : Nat) : ∀ n acc c, acc.length ≤ cnt → (scanP x g ks cnt n acc c).1.length ≤ cnt + ks.length
  | 0, acc, c, h => by rw [scanP]; show acc.length ≤ _; omega
  | n + 1, acc, c, h => by
    have hb : (bkt x g ks c).length ≤ ks.length := List.length_filter_le ..
    rw [scanP]
    by_cases z : nxt g c = 0 ∨ cnt ≤ (acc ++ bkt x g ks c).length
    · rw [if_pos z]
      show (acc ++ bkt x g ks c).length ≤ _
      rw [List.length_append]
      omega
    · rw [if_neg z]
      exact scanP_len x g ks cnt n _ _ (by omega)
theorem pickK_mem {w : World} {B d x : Nat} {D : Dg} (h : Dct w B d x D) (h0 : 0 < D.es.length) (n : Nat) : pickK D n ∈ keysOf D.es := by
  have hp := ((h.ord_perm.flatMap_right Lf.es)).map (·.1)
  have hl : n % D.es.length < (keysOf (esL (ordU D.L (2 ^ D.g)))).length := by
    have := hp.length_eq
    unfold keysOf esL
    rw [this, List.length_map]
    exact Nat.mod_lt _ h0
  refine hp.mem_iff.1 ?_
  unfold pickK
  rw [List.getD_eq_getElem?_getD, List.getElem?_eq_getElem hl, Option.getD_some]
  exact List.getElem_mem hl

set_option maxHeartbeats 4000000 in
theorem scans_any (B d B' r x g : Nat) (sh : List Pt) (es : List En) (c : Nat) (count : Int) (w : World) (hS : Sd w B d B' r x g sh es) (hc : c < 18446744073709551616) (hn : es.length ≤ 100000) :
    Calls Try.prog 15 #[ptr d, ptr r, .int .u64 c, .int .i64 count] w fun e w' => e = .returned (.bool true) ∧ Below w.heap.size w w' := by
  have HS1 := DScan B d x g sh es c count w hS.1 hc
  have HS2 := fun w hR => FScan B' r x g sh (keysOf es) c count w hR hc
  have HSd : Hid (Sd w B d B' r x g sh es) := hS
  have HLn : Hid ((scanP x g (keysOf es) (cntC count) (10 * cntC count) [] c).1.length ≤ 1000000) := by
    have h1 := scanP_len x g (keysOf es) (cntC count) (10 * cntC count) [] c (Nat.zero_le _)
    have h2 := (cntC_le count).2
    have h3 : (keysOf es).length = es.length := List.length_map ..
    show _ ≤ _
    omega
  generalize scanP x g (keysOf es) (cntC count) (10 * cntC count) [] c = R at HS1 HS2 HLn
  obtain ⟨R1, R2⟩ := R
  simp only at HS1 HS2 HLn
  clear hS
  go_enter Try.func15, Try.ntmps15
  go_wp2_with fail
  refine HS1.mono ?_
  rintro e w1 ⟨hb1, a1, n1, c1, k1, rfl, hO1, hp1⟩
  have HB1 : Hid (Below w.heap.size w w1) := hb1
  have HO1 : Hid (OwnS w1 w.heap.size a1 n1 c1 k1) := hO1
  clear hb1 hO1 HS1
  go_wp2_with fail
  refine (HS2 _ (HSd.out.2.keep HB1.out)).mono ?_
  rintro e w2 ⟨hb2, a2, n2, c2, k2, rfl, hO2, hp2⟩
  have HB2 := step_below HB1 hb2
  have hbg := Bag_perm a1 a2 n1 n2 c1 c2 k1 k2 w2 (OwnR.low (OwnR.keep HO1.out hb2) (Nat.zero_le _)) (OwnR.low hO2 (Nat.zero_le _)) (hp1.trans hp2.symm) (by rw [hp1.length_eq]; exact HLn.out)
  clear hb2 hO2 hp1 hp2 HS2 HO1
  go_wp2_with fail
  refine hbg.mono ?_
  rintro e w3 ⟨rfl, hb3⟩
  have HB3 := step_below HB2 hb3
  clear hb3 hbg
  go_wp2
  go_ret
  exact ⟨rfl, HB3.out⟩

set_option maxRecDepth 100000 in
set_option maxHeartbeats 8000000 in
theorem tells_any (B d B' r x g : Nat) (sh : List Pt) (es : List En) (c : Nat) (w : World) (hS : Sd w B d B' r x g sh es) (hc : c < 18446744073709551616) (hn : es.length ≤ 100000) :
    Calls Try.prog 14 #[ptr d, ptr r, .int .u64 c] w fun e w' => e = .returned (.bool true) ∧ Below w.heap.size w w' := by
  have HSd : Hid (Sd w B d B' r x g sh es) := hS
  obtain ⟨⟨D, hD, hDg, hDs, hDe⟩, pr, cap, ps, hRd, hRs, hRk⟩ := hS
  have HAl := FAll B' r x g sh (keysOf es) w HSd.out.2
  have HLe := fun w hD => DLen B d x g sh es w hD
  have HDp := fun w hD => DDepth B d x g sh es w hD
  have HTa := fun w hD => DTables B d x g sh es w hD
  have HBu := fun w hD => DBucket B d x g sh es c w hD hc
  have HRb := fun w hR => FBucket B' r x g sh (keysOf es) c w hR hc
  have HKl : Hid ((keysOf es).length = es.length) := List.length_map ..
  have HBl : Hid ((bkt x g (keysOf es) c).length ≤ 1000000) := by
    have h1 : (bkt x g (keysOf es) c).length ≤ (keysOf es).length := List.length_filter_le ..
    have h2 := HKl.out
    show _ ≤ _
    omega
  have hpl : ps.length = sh.length := by rw [← hRs]; unfold rsh; rw [List.length_map]
  have HCm : Hid (∀ w', Below w.heap.size w w' → (w'.cell? ⟨r, 1, none⟩ = some (.int .i64 (g : Nat)) ∧ w'.cell? ⟨r, 2, none⟩ = some (.slice (some ⟨pr, 0, none⟩) sh.length cap)) ∧ Dic w' B d x g sh es ∧ Rf w' B' r x g sh (keysOf es)) := fun w' hb => by
    have h := hRd.keep hb
    have h2 := h.cpar
    rw [hpl] at h2
    exact ⟨⟨h.cdep, h2⟩, (HSd.out.keep hb).1, (HSd.out.keep hb).2⟩
  have HPk : Hid (∀ w', Below w.heap.size w w' → (es.length = 0 ∧ Calls Try.prog 47 #[ptr d, .int .u64 c] w' fun e w'' => e = .returned (.tuple #[.string ⟨#[]⟩, .bool false]) ∧ Below w'.heap.size w' w'') ∨ (0 < es.length ∧ (Calls Try.prog 47 #[ptr d, .int .u64 c] w' fun e w'' => e = .returned (.tuple #[.string (pickK D c), .bool true]) ∧ Below w'.heap.size w' w'') ∧ Calls Try.prog 48 #[ptr r, .string (pickK D c)] w' fun e w'' => e = .returned (.bool true) ∧ Below w'.heap.size w' w'')) := fun w' hb => by
    have hl := hDe.length_eq
    by_cases z : es.length = 0
    · refine .inl ⟨z, (Pick_none B d x D c w' (hD.keep hb) (by omega)).mono ?_⟩
      rintro e w'' ⟨rfl, rfl⟩
      exact ⟨rfl, Below.refl _ _⟩
    · refine .inr ⟨by omega, Pick_some B d x D c w' (hD.keep hb) (by omega) hc, ?_⟩
      have hm : pickK D c ∈ keysOf es := (hDe.map (·.1)).mem_iff.1 (pickK_mem hD (by omega) c)
      have h := FHas B' r x g sh (keysOf es) (pickK D c) w' (HSd.out.keep hb).2 (hRd.siz _ (hRk.mem_iff.2 hm))
      rw [hasT_iff.2 hm] at h
      exact h
  generalize pickK D c = pk at HPk
  have hln : es.length ≤ 100000 := hn
  generalize hL : sh.length = L at HTa HCm
  have hL16 : L ≤ 65536 := by have := hRd.few; omega
  generalize hE : es.length = E at HLe HKl HPk hln
  clear hD hDg hDs hDe hRd hRs hRk hpl hL hE hn
  go_enter Try.func14, Try.ntmps14
  go_wp2_with fail
  refine HAl.mono ?_
  rintro e w1 ⟨hb1, a1, n1, c1, k1, rfl, hO1, hp1⟩
  have HB : Hid (Below w.heap.size w w1) := hb1
  have hn1 : n1 = E := by
    have h1 := OwnS.len hO1
    have h2 := hp1.length_eq
    have h3 := HKl.out
    omega
  subst hn1
  have hpk := HPk.out
  clear hb1 hO1 hp1 HAl
  have HD0 : Hid (Below w.heap.size w w1.drew) := HB.out.trans ((below_drewN w1 1).mono HB.out.size)
  go_upto_region 2 with fail
  go_cut [7, 47] from 14 to 47 (fun v u wx => v = .slice a1 n1 c1 ∧ u = .bool false ∧ Hid (Below w.heap.size w wx))
  case first =>
    clear hpk HPk
    go_region_held3 (fun w' => w'.cell? ⟨r, 1, none⟩ = some (.int .i64 (g : Nat)) ∧ w'.cell? ⟨r, 2, none⟩ = some (.slice (some ⟨pr, 0, none⟩) L cap)) (exact (HCm.out _ HD0.out).1) (first
      | (go_at_call 31; refine (HLe _ (HCm.out _ HD0.out).2.1).mono ?_; rintro e wx ⟨rfl, rfl⟩)
      | (go_at_call 16; refine (HDp _ (HCm.out _ HD0.out).2.1).mono ?_; rintro e wx ⟨rfl, rfl⟩)
      | (go_at_call 32; refine (HTa _ (HCm.out _ HD0.out).2.1).mono ?_; rintro e wx ⟨rfl, hb⟩; (try replace HOa : Hid (OwnS wx 0 a3 n3 c3 k3 ∧ k3.Perm (bkt x g (keysOf es) c)) := ⟨OwnR.keep HOa.out.1 hb, HOa.out.2⟩); (try replace HOb : Hid (OwnS wx 0 a4 n4 c4 k4 ∧ k4.Perm (bkt x g (keysOf es) c)) := ⟨OwnR.keep HOb.out.1 hb, HOb.out.2⟩); replace HD0 := step_below HD0 hb; clear hb)
      | (go_at_call 20; refine (HBu _ (HCm.out _ HD0.out).2.1).mono ?_; rintro e wx ⟨hb, a3, n3, c3, k3, rfl, ho, hp⟩; have HOa : Hid (OwnS wx 0 a3 n3 c3 k3 ∧ k3.Perm (bkt x g (keysOf es) c)) := ⟨OwnR.low ho (Nat.zero_le _), hp⟩; (try replace HOb : Hid (OwnS wx 0 a4 n4 c4 k4 ∧ k4.Perm (bkt x g (keysOf es) c)) := ⟨OwnR.keep HOb.out.1 hb, HOb.out.2⟩); replace HD0 := step_below HD0 hb; clear hb ho hp)
      | (go_at_call 46; refine (HRb _ (HCm.out _ HD0.out).2.2).mono ?_; rintro e wx ⟨hb, a4, n4, c4, k4, rfl, ho, hp⟩; have HOb : Hid (OwnS wx 0 a4 n4 c4 k4 ∧ k4.Perm (bkt x g (keysOf es) c)) := ⟨OwnR.low ho (Nat.zero_le _), hp⟩; (try replace HOa : Hid (OwnS wx 0 a3 n3 c3 k3 ∧ k3.Perm (bkt x g (keysOf es) c)) := ⟨OwnR.keep HOa.out.1 hb, HOa.out.2⟩); replace HD0 := step_below HD0 hb; clear hb ho hp)
      | (go_at_call 25; refine (Bag_perm a3 a4 n3 n4 c3 c4 k3 k4 _ HOa.out.1 HOb.out.1 (HOa.out.2.trans HOb.out.2.symm) (by rw [HOa.out.2.length_eq]; exact HBl.out)).mono ?_; rintro e wx ⟨rfl, hb⟩; replace HD0 := step_below HD0 hb; clear hb))
    all_goals
      go_wp2
      go_meet
      exact ⟨rfl, rfl, HD0⟩
  case rest =>
  obtain ⟨rfl, rfl, HB2⟩ := hcut
  clear HLe HDp HTa HBu HRb HD0 HCm
  rcases hpk _ HB2.out with ⟨h0, hp⟩ | ⟨h0, hp, -⟩
  · subst h0
    go_wp2_with fail
    refine hp.mono ?_
    rintro e w3 ⟨rfl, hb3⟩
    have HB3 := step_below HB2 hb3
    clear hb3 hp
    rcases hpk _ HB3.out with ⟨-, hp⟩ | ⟨h0, -⟩
    · go_wp2_with fail
      refine hp.mono ?_
      rintro e w4 ⟨rfl, hb4⟩
      have HB4 := step_below HB3 hb4
      clear hb4 hp
      go_wp2
      go_ret
      exact ⟨rfl, HB4.out⟩
    · exact absurd h0 (by omega)
  · have hz : (0 : Int) < (n1 : Nat) := by omega
    go_wp2_with fail
    refine hp.mono ?_
    rintro e w3 ⟨rfl, hb3⟩
    have HB3 := step_below HB2 hb3
    clear hb3 hp
    rcases hpk _ HB3.out with ⟨h1, -⟩ | ⟨-, -, hh⟩
    · exact absurd h1 (by omega)
    · go_wp2_with fail
      refine hh.mono ?_
      rintro e w4 ⟨rfl, hb4⟩
      have HB4 := step_below HB3 hb4
      clear hb4 hh
      rcases hpk _ HB4.out with ⟨h1, -⟩ | ⟨-, hp, -⟩
      · exact absurd h1 (by omega)
      · have hsb : (pk.toList == pk.toList) = true := by rw [str_beq]; exact decide_eq_true rfl
        go_wp2_with fail
        refine hp.mono ?_
        rintro e w5 ⟨rfl, hb5⟩
        have HB5 := step_below HB4 hb5
        clear hb5 hp
        go_wp2
        go_ret
        exact ⟨rfl, HB5.out⟩

/-- The depth and the parts behind a Put. -/
def st (x g : Nat) (sh : List Pt) (es : List En) (k : ByteArray) : Nat × List Pt := if hasK es k = true then (g, sh) else grow x (keysOf es) (hsh x k) 17 g sh
theorem st_old {x g : Nat} {sh : List Pt} {es : List En} {k : ByteArray} (h : k ∈ keysOf es) : st x g sh es k = (g, sh) := by unfold st; rw [if_pos (hasK_iff.2 h)]
theorem st_new {x g : Nat} {sh : List Pt} {es : List En} {k : ByteArray} (h : k ∉ keysOf es) : st x g sh es k = grow x (keysOf es) (hsh x k) 17 g sh := by unfold st; rw [if_neg (by rw [hasK_no h]; decide)]
theorem putE_new {es : List En} {k : ByteArray} {v : Int} (h : k ∉ keysOf es) : putE es k v = es ++ [(k, v)] := by unfold putE; rw [if_neg (by rw [hasK_no h]; decide)]
theorem Dic.base {w : World} {B d x g : Nat} {sh : List Pt} {es : List En} (h : Dic w B d x g sh es) : B ≤ w.heap.size := by
  obtain ⟨D, h1, -⟩ := h
  have h2 := h1.low
  have h3 := (Array.getElem?_eq_some_iff.1 h1.blk).1
  omega
theorem Rf.base {w : World} {B r x g : Nat} {sh : List Pt} {ks : List ByteArray} (h : Rf w B r x g sh ks) : B ≤ w.heap.size := by
  obtain ⟨pr, cap, ps, h1, -⟩ := h
  have h2 := h1.low
  have h3 := h1.lt
  omega
theorem Rf.perm {w : World} {B r x g : Nat} {sh : List Pt} {ks ks' : List ByteArray} (h : Rf w B r x g sh ks) (hp : ks.Perm ks') : Rf w B r x g sh ks' := by
  obtain ⟨pr, cap, ps, a, b, c⟩ := h
  exact ⟨pr, cap, ps, a, b, c.trans hp⟩

theorem DPut_any (B d x g : Nat) (sh : List Pt) (es : List En) (k : ByteArray) (v : Int) (w : World) (hD : Dic w B d x g sh es) (hks : k.size ≤ maxLen) (hle : es.length < 1000000) :
    Calls Try.prog 13 #[ptr d, .string k, .int .i64 v] w fun e w' => e = .returned (.int .i64 0) ∧ Below B w w' ∧ Mv dtag w w' ∧ Dic w' B d x (st x g sh es k).1 (st x g sh es k).2 (putE es k v) := by
  by_cases h : k ∈ keysOf es
  · rw [st_old h]
    obtain ⟨a, u, c, rfl⟩ := key_split h
    rw [putE_old hD.nod]
    exact DPut_old B d x g sh a c k u v w hD
  · rw [st_new h, putE_new h]
    exact DPut_new B d x g sh es k v w hD hks h hle
theorem DDel_any (B d x g : Nat) (sh : List Pt) (es : List En) (k : ByteArray) (w : World) (hD : Dic w B d x g sh es) (hks : k.size ≤ maxLen) :
    Calls Try.prog 29 #[ptr d, .string k] w fun e w' => e = .returned (.bool (hasK es k)) ∧ Below B w w' ∧ Mv dtag w w' ∧ Dic w' B d x g sh (delE es k) := by
  by_cases h : k ∈ keysOf es
  · rw [hasK_iff.2 h]
    obtain ⟨a, u, c, rfl⟩ := key_split h
    rw [delE_old hD.nod]
    exact DDelete_yes B d x g sh a c k u w hD
  · rw [hasK_no h, filter_same h]
    refine (DDelete_no B d x g sh es k w hD hks h).mono ?_
    rintro e w' ⟨rfl, hb⟩
    exact ⟨rfl, hb.mono hD.base, Mv.of_below hb, hD.keep hb⟩
theorem DGet_any (B d x g : Nat) (sh : List Pt) (es : List En) (k : ByteArray) (w : World) (hD : Dic w B d x g sh es) (hks : k.size ≤ maxLen) :
    Calls Try.prog 30 #[ptr d, .string k] w fun e w' => e = .returned (.tuple #[.int .i64 (getE es k), .bool (hasK es k)]) ∧ Below w.heap.size w w' := by
  by_cases h : k ∈ keysOf es
  · obtain ⟨a, u, c, e⟩ := key_split h
    have hm : (k, u) ∈ es := by rw [e]; simp
    rw [hasK_iff.2 h, getE_mem hD.nod hm]
    exact DGet_some B d x g sh es k u w hD hks hm
  · rw [hasK_no h, getE_none h]
    exact DGet_none B d x g sh es k w hD hks h
theorem FDel_any (B r x g : Nat) (sh : List Pt) (es : List En) (k : ByteArray) (w : World) (hR : Rf w B r x g sh (keysOf es)) (hn : (keysOf es).Nodup) (hks : k.size ≤ maxLen) :
    Calls Try.prog 52 #[ptr r, .string k] w fun e w' => e = .returned (.bool (hasK es k)) ∧ Below B w w' ∧ Mv rtag w w' ∧ Rf w' B r x g sh (keysOf (delE es k)) := by
  by_cases h : k ∈ keysOf es
  · rw [hasK_iff.2 h]
    obtain ⟨a, u, c, rfl⟩ := key_split h
    rw [delE_old hn]
    rw [keysOf_append] at hR ⊢
    exact FDelete_yes B r x g sh (keysOf a) (keysOf c) k w hR hks
  · rw [hasK_no h, filter_same h]
    refine (FDelete_no B r x g sh (keysOf es) k w hR hks h).mono ?_
    rintro e w' ⟨rfl, hb⟩
    exact ⟨rfl, hb.mono hR.base, Mv.of_below hb, hR.keep hb⟩
theorem dr_apart : (∀ t, dtag t = true → rtag t = false) ∧ dtag 68 = false ∧ dtag 65 = false ∧ dtag 9 = false := by
  refine ⟨fun t h => ?_, rfl, rfl, rfl⟩
  unfold dtag at h
  unfold rtag
  simp only [Bool.or_eq_true, beq_iff_eq] at h
  rcases h with ((((h | h) | h) | h) | h) | h <;> subst h <;> rfl

theorem FPut_new (B r x g : Nat) (sh : List Pt) (ks : List ByteArray) (k : ByteArray) (w : World) (hR : Rf w B r x g sh ks) (hks : k.size ≤ maxLen) (hk : k ∉ ks) (hle : ks.length < 1000000) :
    Calls Try.prog 11 #[ptr r, .string k] w fun e w' => e = .returned (.tuple #[]) ∧ Below B w w' ∧ Mv rtag w w' ∧ Rf w' B r x (grow x ks (hsh x k) 17 g sh).1 (grow x ks (hsh x k) 17 g sh).2 (ks ++ [k]) := by
  obtain ⟨pr, cap, ps, h1, h2, h3⟩ := hR
  subst h2
  have hgp : grow x (rks ps) (hsh x k) 17 g (rsh ps) = grow x ks (hsh x k) 17 g (rsh ps) := grow_perm h3 _ _ _ _
  refine (RPut_new B r x g pr cap ps k w h1 hks (fun hm => hk (h3.mem_iff.1 hm)) (by rw [h3.length_eq]; exact hle)).mono ?_
  rintro e w' ⟨rfl, g', pr', cap', ps', k1, k2, k3, k4, k5⟩
  rw [← hgp, ← k2]
  exact ⟨rfl, k4, k5, pr', cap', ps', k1, rfl, k3.trans (h3.append_right _)⟩
theorem keysOf_putE_old {es : List En} {k : ByteArray} {v : Int} (hn : (keysOf es).Nodup) (h : k ∈ keysOf es) : keysOf (putE es k v) = keysOf es := by
  obtain ⟨a, u, c, rfl⟩ := key_split h
  rw [putE_old hn, keysOf_append, keysOf_append]
  rfl
theorem FPut_any (B r x g : Nat) (sh : List Pt) (es : List En) (k : ByteArray) (v : Int) (w : World) (hR : Rf w B r x g sh (keysOf es)) (hn : (keysOf es).Nodup) (hks : k.size ≤ maxLen) (hle : es.length < 1000000) :
    Calls Try.prog 11 #[ptr r, .string k] w fun e w' => e = .returned (.tuple #[]) ∧ Below B w w' ∧ Mv rtag w w' ∧ Rf w' B r x (st x g sh es k).1 (st x g sh es k).2 (keysOf (putE es k v)) := by
  by_cases h : k ∈ keysOf es
  · rw [st_old h, keysOf_putE_old hn h]
    refine (FPut_old B r x g sh (keysOf es) k w hR hks h).mono ?_
    rintro e w' ⟨rfl, hb⟩
    exact ⟨rfl, hb.mono hR.base, Mv.of_below hb, hR.keep hb⟩
  · rw [st_new h, putE_new h, keysOf_append]
    refine FPut_new B r x g sh (keysOf es) k w hR hks h ?_
    have : (keysOf es).length = es.length := List.length_map ..
    omega

theorem hasT_keys (es : List En) (k : ByteArray) : hasT (keysOf es) k = hasK es k := by
  cases e : hasK es k with
  | true => exact hasT_iff.2 (hasK_iff.1 e)
  | false => exact hasT_no (fun hm => by have := hasK_iff.2 hm; rw [e] at this; cases this)
theorem putE_mem (es : List En) (k : ByteArray) (v : Int) : (k, v) ∈ putE es k v := by
  by_cases h : k ∈ keysOf es
  · obtain ⟨e, he, h1⟩ := List.mem_map.1 h
    unfold putE
    rw [if_pos (hasK_iff.2 h)]
    exact List.mem_map.2 ⟨e, he, if_pos h1⟩
  · rw [putE_new h]
    simp
/-- The two, side by side, whatever the depth and the parts. -/
def Sx (w : World) (B d B' r x : Nat) (es : List En) : Prop := ∃ g sh, Sd w B d B' r x g sh es
theorem Sx.keep {w w' : World} {B d B' r x : Nat} {es : List En} (h : Sx w B d B' r x es) (hb : Below w.heap.size w w') : Sx w' B d B' r x es := by
  obtain ⟨g, sh, h⟩ := h
  exact ⟨g, sh, h.keep hb⟩
/-- Put into the document's own first: the state between. -/
def Sm (w : World) (B d B' r x : Nat) (es : List En) (k : ByteArray) (v : Int) : Prop := ∃ g sh, Dic w B d x g sh es ∧ Rf w B' r x (st x g sh es k).1 (st x g sh es k).2 (keysOf (putE es k v))
theorem Sx.rput (B d B' r x : Nat) (es : List En) (k : ByteArray) (v : Int) (w : World) (h : Sx w B d B' r x es) (hB : B ≤ B') (hks : k.size ≤ maxLen) (hle : es.length < 1000000) :
    Calls Try.prog 11 #[ptr r, .string k] w fun e w' => e = .returned (.tuple #[]) ∧ Sm w' B d B' r x es k v ∧ Below B w w' := by
  obtain ⟨g, sh, h1, h2⟩ := h
  refine (FPut_any B' r x g sh es k v w h2 h1.nod hks hle).mono ?_
  rintro e w' ⟨rfl, hb, hm, hR⟩
  exact ⟨rfl, ⟨g, sh, h1.mv hm dr_apart.1, hR⟩, hb.mono hB⟩
theorem Sm.put (B d B' r x : Nat) (es : List En) (k : ByteArray) (v : Int) (w : World) (h : Sm w B d B' r x es k v) (hks : k.size ≤ maxLen) (hle : es.length < 1000000) :
    Calls Try.prog 13 #[ptr d, .string k, .int .i64 v] w fun e w' => e = .returned (.int .i64 0) ∧ Sx w' B d B' r x (putE es k v) ∧ Below B w w' := by
  obtain ⟨g, sh, h1, h2⟩ := h
  refine (DPut_any B d x g sh es k v w h1 hks hle).mono ?_
  rintro e w' ⟨rfl, hb, hm, hD⟩
  exact ⟨rfl, ⟨_, _, hD, h2.mv hm dr_apart.2.1 dr_apart.2.2.1 dr_apart.2.2.2⟩, hb⟩
/-- Deleted from the dict first: the state between. -/
def Sn (w : World) (B d B' r x : Nat) (es : List En) (k : ByteArray) : Prop := ∃ g sh, Dic w B d x g sh (delE es k) ∧ Rf w B' r x g sh (keysOf es) ∧ (keysOf es).Nodup
theorem Sx.del (B d B' r x : Nat) (es : List En) (k : ByteArray) (w : World) (h : Sx w B d B' r x es) (hks : k.size ≤ maxLen) :
    Calls Try.prog 29 #[ptr d, .string k] w fun e w' => e = .returned (.bool (hasK es k)) ∧ Sn w' B d B' r x es k ∧ Below B w w' := by
  obtain ⟨g, sh, h1, h2⟩ := h
  refine (DDel_any B d x g sh es k w h1 hks).mono ?_
  rintro e w' ⟨rfl, hb, hm, hD⟩
  exact ⟨rfl, ⟨g, sh, hD, h2.mv hm dr_apart.2.1 dr_apart.2.2.1 dr_apart.2.2.2, h1.nod⟩, hb⟩
theorem Sn.rdel (B d B' r x : Nat) (es : List En) (k : ByteArray) (w : World) (h : Sn w B d B' r x es k) (hB : B ≤ B') (hks : k.size ≤ maxLen) :
    Calls Try.prog 52 #[ptr r, .string k] w fun e w' => e = .returned (.bool (hasK es k)) ∧ Sx w' B d B' r x (delE es k) ∧ Below B w w' := by
  obtain ⟨g, sh, h1, h2, hn⟩ := h
  refine (FDel_any B' r x g sh es k w h2 hn hks).mono ?_
  rintro e w' ⟨rfl, hb, hm, hR⟩
  exact ⟨rfl, ⟨g, sh, h1.mv hm dr_apart.1, hR⟩, hb.mono hB⟩
theorem Sx.get (B d B' r x : Nat) (es : List En) (k : ByteArray) (w : World) (h : Sx w B d B' r x es) (hks : k.size ≤ maxLen) :
    Calls Try.prog 30 #[ptr d, .string k] w fun e w' => e = .returned (.tuple #[.int .i64 (getE es k), .bool (hasK es k)]) ∧ Below w.heap.size w w' := by
  obtain ⟨g, sh, h1, h2⟩ := h
  exact DGet_any B d x g sh es k w h1 hks
theorem Sx.get_put (B d B' r x : Nat) (es : List En) (k : ByteArray) (v : Int) (w : World) (h : Sx w B d B' r x (putE es k v)) (hks : k.size ≤ maxLen) :
    Calls Try.prog 30 #[ptr d, .string k] w fun e w' => e = .returned (.tuple #[.int .i64 v, .bool true]) ∧ Below w.heap.size w w' := by
  obtain ⟨g, sh, h1, h2⟩ := h
  exact DGet_some B d x g sh _ k v w h1 hks (putE_mem es k v)
theorem Sx.has (B d B' r x : Nat) (es : List En) (k : ByteArray) (w : World) (h : Sx w B d B' r x es) (hks : k.size ≤ maxLen) :
    Calls Try.prog 48 #[ptr r, .string k] w fun e w' => e = .returned (.bool (hasK es k)) ∧ Below w.heap.size w w' := by
  obtain ⟨g, sh, h1, h2⟩ := h
  rw [← hasT_keys]
  exact FHas B' r x g sh (keysOf es) k w h2 hks
theorem Sx.tells (B d B' r x : Nat) (es : List En) (c : Nat) (w : World) (h : Sx w B d B' r x es) (hc : c < 18446744073709551616) (hn : es.length ≤ 100000) :
    Calls Try.prog 14 #[ptr d, ptr r, .int .u64 c] w fun e w' => e = .returned (.bool true) ∧ Below w.heap.size w w' := by
  obtain ⟨g, sh, h⟩ := h
  exact tells_any B d B' r x g sh es c w h hc hn
theorem Sx.scans (B d B' r x : Nat) (es : List En) (c : Nat) (count : Int) (w : World) (h : Sx w B d B' r x es) (hc : c < 18446744073709551616) (hn : es.length ≤ 100000) :
    Calls Try.prog 15 #[ptr d, ptr r, .int .u64 c, .int .i64 count] w fun e w' => e = .returned (.bool true) ∧ Below w.heap.size w w' := by
  obtain ⟨g, sh, h⟩ := h
  exact scans_any B d B' r x g sh es c count w h hc hn
theorem Sx.start {w w1 : World} {B d r x pr : Nat} (hD : Dic w B d x 0 [(0, 0)] []) (hb : Below w.heap.size w w1) (hR : RefD w1 w.heap.size r x 0 pr 1 [⟨0, 0, none, 0, 0, []⟩]) : Sx w1 B d w.heap.size r x [] :=
  ⟨0, [(0, 0)], hD.keep hb, pr, 1, _, hR, rfl, List.Perm.refl _⟩

end Go.Proofs.Ytejnmikbbnckeaa

/-
  How a directory grows ahead of a new key: parts are split, one behind the other, until there is room. Pure.
-/
import Derived.Test.YtejnmikbbnckeaaSp2
namespace Go.Proofs.Ytejnmikbbnckeaa
open Go.RowKit Go.PlainAid

/-- How many keys belong to a part. -/
def cntIn (x : Nat) (ks : List ByteArray) (s : Pt) : Nat := (ks.filter fun k => isIn s (hsh x k)).length
theorem cntIn_perm {x : Nat} {ks ks' : List ByteArray} (h : ks.Perm ks') (s : Pt) : cntIn x ks s = cntIn x ks' s := (h.filter _).length_eq
/-- Which part a hash belongs to. -/
def pidx (sh : List Pt) (h : Nat) : Nat := sh.findIdx fun s => isIn s h
def grow (x : Nat) (ks : List ByteArray) (h : Nat) : Nat → Nat → List Pt → Nat × List Pt
  | 0, g, sh => (g, sh)
  | n + 1, g, sh =>
    match sh[pidx sh h]? with
    | some (l, q) => if l < 16 ∧ 112 ≤ cntIn x ks (l, q) then grow x ks h n (max g (l + 1)) (sh.set (pidx sh h) (l + 1, q) ++ [(l + 1, q + 2 ^ l)]) else (g, sh)
    | none => (g, sh)
theorem pidx_at {a c : List Pt} {s : Pt} {h : Nat} (hi : isIn s h = true) (ha : ∀ t ∈ a, isIn t h = false) : pidx (a ++ s :: c) h = a.length := by
  unfold pidx
  rw [List.findIdx_append, List.findIdx_eq_length.2 (by intro t ht; exact ha t ht)]
  simp [List.findIdx_cons, hi]
theorem grow_yes {x : Nat} {ks : List ByteArray} {h n g : Nat} {a c : List Pt} {l q : Nat} (hi : isIn (l, q) h = true) (ha : ∀ t ∈ a, isIn t h = false) (h1 : l < 16) (h2 : 112 ≤ cntIn x ks (l, q)) :
    grow x ks h (n + 1) g (a ++ (l, q) :: c) = grow x ks h n (max g (l + 1)) (a ++ (l + 1, q) :: (c ++ [(l + 1, q + 2 ^ l)])) := by
  rw [grow, pidx_at hi ha, List.getElem?_append_right (Nat.le_refl _), Nat.sub_self]
  simp only [List.getElem?_cons_zero]
  rw [if_pos ⟨h1, h2⟩, List.set_append_right _ _ (Nat.le_refl _), Nat.sub_self]
  simp
theorem grow_no {x : Nat} {ks : List ByteArray} {h n g : Nat} {a c : List Pt} {l q : Nat} (hi : isIn (l, q) h = true) (ha : ∀ t ∈ a, isIn t h = false) (h1 : ¬ (l < 16 ∧ 112 ≤ cntIn x ks (l, q))) :
    grow x ks h n g (a ++ (l, q) :: c) = (g, a ++ (l, q) :: c) := by
  cases n with
  | zero => rfl
  | succ n =>
    rw [grow, pidx_at hi ha, List.getElem?_append_right (Nat.le_refl _), Nat.sub_self]
    simp only [List.getElem?_cons_zero]
    rw [if_neg h1]
theorem grow_perm {x : Nat} {ks ks' : List ByteArray} (hp : ks.Perm ks') (h : Nat) : ∀ n g sh, grow x ks h n g sh = grow x ks' h n g sh
  | 0, _, _ => rfl
  | n + 1, g, sh => by
    rw [grow, grow]
    cases sh[pidx sh h]? with
    | none => rfl
    | some s =>
      obtain ⟨l, q⟩ := s
      simp only
      rw [cntIn_perm hp, grow_perm hp h n]

/-- The keys of a leaf are those of its part. -/
theorem Dct.keys_of {w : World} {B d x : Nat} {D : Dg} (h : Dct w B d x D) {La Lc : List Lf} {f : Lf} (e : D.L = La ++ f :: Lc) : (keysOf D.es).filter (fun k => isIn f.pt (hsh x k)) = keysOf f.es := by
  have hnod := h.nod
  rw [e, fpL_append, fpL_cons] at hnod
  obtain ⟨-, n2⟩ := List.nodup_cons.1 hnod
  obtain ⟨-, n4⟩ := List.nodup_cons.1 n2
  rw [List.nodup_append, List.nodup_append] at n4
  obtain ⟨-, ⟨-, -, n8⟩, n9⟩ := n4
  have hf : f ∈ D.L := by rw [e]; simp
  have hno : ∀ (M : List Lf), (∀ u ∈ M, u ∈ D.L ∧ u ≠ f) → (keysOf (esL M)).filter (fun k => isIn f.pt (hsh x k)) = [] := by
    intro M hM
    rw [List.filter_eq_nil_iff]
    intro k hk hd
    obtain ⟨en, he, rfl⟩ := List.mem_map.1 hk
    obtain ⟨u, hu, he⟩ := List.mem_flatMap.1 he
    exact (hM u hu).2 (h.same (hM u hu).1 hf (h.own u (hM u hu).1 en he) hd)
  have ha : ∀ u ∈ La, u ∈ D.L ∧ u ≠ f := fun u hu => ⟨by rw [e]; simp [hu], fun e2 => by subst e2; exact n9 u.a (mem_fpL hu (by simp [Lf.fp])) u.a (by simp [Lf.fp]) rfl⟩
  have hc : ∀ u ∈ Lc, u ∈ D.L ∧ u ≠ f := fun u hu => ⟨by rw [e]; simp [hu], fun e2 => by subst e2; exact n8 u.a (by simp [Lf.fp]) u.a (mem_fpL hu (by simp [Lf.fp])) rfl⟩
  unfold Dg.es
  rw [e, esL_append, esL_cons, keysOf_append, keysOf_append, List.filter_append, List.filter_append, hno La ha, hno Lc hc, List.nil_append, List.append_nil, List.filter_eq_self]
  intro k hk
  obtain ⟨en, he, rfl⟩ := List.mem_map.1 hk
  exact h.own f hf en he
theorem Dct.cnt_of {w : World} {B d x : Nat} {D : Dg} (h : Dct w B d x D) {La Lc : List Lf} {f : Lf} (e : D.L = La ++ f :: Lc) : cntIn x (keysOf D.es) f.pt = f.es.length := by
  unfold cntIn
  rw [h.keys_of e, List.length_map]

set_option maxRecDepth 100000 in
set_option maxHeartbeats 8000000 in
theorem PutD_new (B d x : Nat) (D : Dg) (k : ByteArray) (v : Int) (w : World) (hD : Dct w B d x D) (hks : k.size ≤ maxLen) (hk : k ∉ keysOf D.es) (hle : D.es.length < 1000000) :
    Calls Try.prog 13 #[ptr d, .string k, .int .i64 v] w fun e w' => e = .returned (.int .i64 0) ∧ ∃ D', Turn w w' B d x D D' ∧ (D'.g, D'.sh) = grow x (keysOf D.es) (hsh x k) 17 D.g D.sh ∧ D'.es.Perm (D.es ++ [(k, v)]) := by
  obtain ⟨La, f, Lc, eL, hi, h2, h3⟩ := hD.parts (hsh x k)
  have hf : f ∈ D.L := by rw [eL]; simp
  have HD : Hid (Dct w B d x D) := hD
  have Hf : Hid (f ∈ D.L) := hf
  have hc := hD.cseed
  have hx := hD.seed
  have HOf := fun w => Of_hsh x k w hks hx
  have HLf := fun w hD => leafOf_any B d x D f (hsh x k) w hD hf hi (hsh_lt x k)
  have HHo := fun w hL => holder_no B x f k w hL hks (fun hm => hk ((hD.memk eL h2 h3).2 hm))
  have HKS : Hid (k.size ≤ maxLen) := hks
  have HK : Hid (k ∉ keysOf D.es) := hk
  have HLe : Hid (D.es.length < 1000000) := hle
  have HHs : Hid (hsh x k = hsh x k) := rfl
  obtain ⟨h, eh⟩ : ∃ h, hsh x k = h := ⟨_, rfl⟩
  have HEh : Hid (hsh x k = h) := eh
  have hh : h < 18446744073709551616 := by rw [← eh]; exact hsh_lt x k
  rw [eh] at HOf HLf ⊢
  obtain ⟨R, hR⟩ : ∃ R, grow x (keysOf D.es) h 17 D.g D.sh = R := ⟨_, rfl⟩
  have HR : Hid (grow x (keysOf D.es) h 17 D.g D.sh = R) := hR
  rw [hR]
  clear hD hk hks hle hi h2 h3 eL hf eh hR HHs
  go_enter Try.func13, Try.ntmps13
  go_wp2_with fail
  refine (HOf _).mono ?_
  rintro e w ⟨rfl, rfl⟩
  go_wp2_with fail
  refine (HLf _ HD.out).mono ?_
  rintro e w1 ⟨rfl, hb1⟩
  have HB1 : Hid (Below w.heap.size w w1) := hb1
  have hHo := HHo _ ((HD.out.keep hb1).leaf f Hf.out)
  clear HOf HLf HHo hb1
  go_wp2_with fail
  refine hHo.mono ?_
  rintro e w2 ⟨rfl, hb2⟩
  have HB2 := step_below HB1 hb2
  have HT2 : Hid (Turn w w2 B d x D D) := Turn.refl HD.out HB2.out
  clear hb2 hHo HB1 hc Hf HB2
  go_wp2
  go_loopg [] 17 (fun n wr => ∃ D1, Hid (Turn w wr B d x D D1) ∧ Hid (D1.es.Perm D.es) ∧ Hid (grow x (keysOf D.es) h n D1.g D1.sh = R) ∧ Hid (∀ f ∈ D1.L, isIn f.pt h = true → 16 < f.l + n))
  case atStart => exact ⟨D, HT2, List.Perm.refl _, HR, (fun f _ _ => by omega : ∀ f ∈ D.L, isIn f.pt h = true → 16 < f.l + 17)⟩
  case round =>
    clear HT2 HR
    obtain ⟨D1, HT, HPm, HR, HMe⟩ := hrel
    have hD1 := HT.out.dct
    obtain ⟨La, f, Lc, eL, hi, h2, h3⟩ := hD1.parts h
    have hf : f ∈ D1.L := by rw [eL]; simp
    have HLf := fun w hD => leafOf_any B d x D1 f h w hD hf hi hh
    have hlf := hD1.lef hf
    have HSp := fun w hL => splits_any B x f w hL hlf.2.1 (hD1.les hf)
    have HeL : Hid (D1.L = La ++ f :: Lc) := eL
    have Hf : Hid (f ∈ D1.L) := hf
    have Hi : Hid (isIn f.pt h = true) := hi
    have Ha : Hid (∀ u ∈ La, isIn u.pt h = false) := h2
    have Hcc : Hid (∀ u ∈ Lc, isIn u.pt h = false) := h3
    have HD1 : Hid (Dct wr B d x D1) := hD1
    have HCn : Hid (cntIn x (keysOf D.es) f.pt = f.es.length) := by show _ = _; rw [cntIn_perm (HPm.out.map (·.1)).symm]; exact hD1.cnt_of eL
    have HshE : Hid (D1.sh = shL La ++ (f.l, f.q) :: shL Lc) := by show _ = _; unfold Dg.sh shL; rw [eL, List.map_append]; rfl
    have Ha2 : Hid (∀ s ∈ shL La, isIn s h = false) := fun s hs => by obtain ⟨u, hu, rfl⟩ := List.mem_map.1 hs; exact h2 u hu
    have hme := HMe.out f hf hi
    clear hD1 hf hi h2 h3 eL
    go_wp2_with fail
    refine (HLf _ HD1.out).mono ?_
    rintro e w3 ⟨rfl, hb3⟩
    have HB3 : Hid (Below wr.heap.size wr w3) := hb3
    have hSp := HSp _ ((HD1.out.keep hb3).leaf f Hf.out)
    clear hb3
    go_wp2_with fail
    refine hSp.mono ?_
    rintro e w3 ⟨rfl, rfl⟩
    clear hSp HSp
    by_cases hb : f.l < 16 ∧ 112 ≤ f.es.length
    · have hbb : (decide (f.l < 16) && decide (112 ≤ f.es.length)) = true := by rw [decide_eq_true hb.1, decide_eq_true hb.2]; rfl
      have hS := split_any B d x D1 La Lc f h w3 (HD1.out.keep HB3.out) HeL.out Hi.out hb.1 hh
      have HBo : Hid (f.l < 16 ∧ 112 ≤ f.es.length) := hb
      clear hb HLf
      rw [hbb]
      go_wp2_with fail
      refine hS.mono ?_
      rintro e w4 ⟨rfl, f0, f1, pb1, cap1, pl1, hSS⟩
      obtain ⟨hT4, hp4⟩ := (HD1.out.keep HB3.out).split HeL.out HBo.out.1 hSS
      have HT4 : Hid (Turn w w4 B d x D ⟨max D1.g (f.l + 1), pb1, cap1, pl1, La ++ f0 :: (Lc ++ [f1])⟩) := HT.out.trans (hT4.first HB3.out)
      have HP4 : Hid ((⟨max D1.g (f.l + 1), pb1, cap1, pl1, La ++ f0 :: (Lc ++ [f1])⟩ : Dg).es.Perm D.es) := hp4.trans HPm.out
      obtain ⟨n, rfl⟩ : ∃ n, gk = n + 1 := ⟨gk - 1, by have := HBo.out.1; omega⟩
      have HR4 : Hid (grow x (keysOf D.es) h n (max D1.g (f.l + 1)) (⟨max D1.g (f.l + 1), pb1, cap1, pl1, La ++ f0 :: (Lc ++ [f1])⟩ : Dg).sh = R) := by
        have := HR.out
        rw [HshE.out, grow_yes (a := shL La) (c := shL Lc) (l := f.l) (q := f.q) Hi.out Ha2.out HBo.out.1 (by have := HCn.out; unfold Lf.pt at this; rw [this]; exact HBo.out.2)] at this
        have e1 : (⟨max D1.g (f.l + 1), pb1, cap1, pl1, La ++ f0 :: (Lc ++ [f1])⟩ : Dg).sh = shL La ++ (f.l + 1, f.q) :: (shL Lc ++ [(f.l + 1, f.q + 2 ^ f.l)]) := by
          show shL _ = _
          unfold shL
          rw [List.map_append, List.map_cons, List.map_append, hSS.pt0]
          show _ ++ _ :: (_ ++ [f1.pt]) = _
          rw [hSS.pt1]
        show grow _ _ _ _ _ _ = _
        rw [e1]
        exact this
      have HM4 : Hid (∀ u ∈ La ++ f0 :: (Lc ++ [f1]), isIn u.pt h = true → 16 < u.l + n) := by
        intro u hu hiu
        simp only [List.mem_append, List.mem_cons, List.not_mem_nil, or_false] at hu
        rcases hu with hu | rfl | hu | rfl
        · rw [Ha.out u hu] at hiu; cases hiu
        · have := congrArg Prod.fst hSS.pt0
          simp only [Lf.pt] at this
          omega
        · rw [Hcc.out u hu] at hiu; cases hiu
        · have := congrArg Prod.fst hSS.pt1
          simp only [Lf.pt] at this
          omega
      clear hS hSS hT4 hp4 hbb
      go_wp2
      go_roundg n
      case measure => omega
      case rel => exact ⟨_, HT4, HP4, HR4, HM4⟩
    · have hbb : (decide (f.l < 16) && decide (112 ≤ f.es.length)) = false := by
        rw [Bool.and_eq_false_iff, decide_eq_false_iff_not, decide_eq_false_iff_not]
        by_cases h1 : f.l < 16
        · exact .inr (fun h2 => hb ⟨h1, h2⟩)
        · exact .inl h1
      have HBn : Hid (¬ (f.l < 16 ∧ 112 ≤ f.es.length)) := hb
      have HR5 : Hid ((D1.g, D1.sh) = R) := by
        have := HR.out
        rw [HshE.out, grow_no (a := shL La) (c := shL Lc) (l := f.l) (q := f.q) Hi.out Ha2.out (by have h9 := HCn.out; unfold Lf.pt at h9; rw [h9]; exact hb), ← HshE.out] at this
        exact this
      rw [hbb]
      clear hb hbb
      have HD3 : Hid (Dct w3 B d x D1) := HD1.out.keep HB3.out
      have HT3 : Hid (Turn w w3 B d x D D1) := HT.out.trans (Turn.refl HD1.out HB3.out)
      have HKf : Hid (k ∉ keysOf f.es) := fun hm => by
        obtain ⟨en, he, h1⟩ := List.mem_map.1 hm
        exact HK.out (List.mem_map.2 ⟨en, HPm.out.mem_iff.1 (mem_esL Hf.out he), h1⟩)
      have HLf3 : ∀ w', Below w3.heap.size w3 w' → Calls Try.prog 39 #[ptr d, .int .u64 h] w' fun e w'' => e = .returned (ptr f.a) ∧ Below w'.heap.size w' w'' := fun w' hb => leafOf_any B d x D1 f h w' (HD3.out.keep hb) Hf.out Hi.out hh
      have HAd : ∀ w', Below w3.heap.size w3 w' → Calls Try.prog 44 #[ptr f.a, .int .u64 x, .string k, .int .i64 v] w' fun e w'' => e = .returned (.tuple #[]) ∧ Added w3 w'' B x f k v := fun w' hb => by
        refine (add_leaf B x f k v w' ((HD3.out.keep hb).leaf f Hf.out) hx HKS.out HKf.out (by have h1 := (HD3.out.ful f Hf.out).le; have h2 := HD3.out.les Hf.out; omega) (by have h1 := (HD3.out.keep hb).low; have h2 := (HD3.out.keep hb).lt; omega)).mono ?_
        rintro e w'' ⟨rfl, f', hG, hp, ho, hfu⟩
        exact ⟨rfl, f', hG.first hb, hp, ho, hfu⟩
      have HSd : Hid (∀ w', Below w3.heap.size w3 w' → w'.cell? ⟨d, 0, none⟩ = some (.int .u64 (x : Nat))) := fun w' hb => (HD3.out.keep hb).cseed
      have HSd2 : Hid (∀ w', Added w3 w' B x f k v → w'.cell? ⟨d, 0, none⟩ = some (.int .u64 (x : Nat))) := fun w' hA => by
        obtain ⟨f', hG, -⟩ := hA
        rw [World.cell?_of_block (hG.stay.block d HD3.out.lt (HD3.out.apart Hf.out))]
        exact HD3.out.cseed
      have HDw : Hid (Below w3.heap.size w3 w3.drew) := below_drewN w3 1
      clear HLf HB3 HT HD1
      go_upto_region 7 with fail
      go_cut [] from 33 to 42 (fun wx => Hid (Added w3 wx B x f k v))
      case first =>
        go_region_held3 (fun w' => w'.cell? ⟨d, 0, none⟩ = some (.int .u64 (x : Nat))) (first | exact HSd.out _ HDw.out | exact HSd2.out _ HAz.out) (first
          | (go_at_call 39; refine (HLf3 _ HDw.out).mono ?_; rintro e wx ⟨rfl, hb⟩; replace HDw := step_below HDw hb; clear hb)
          | (go_at_call 44; refine (HAd _ HDw.out).mono ?_; rintro e wz ⟨rfl, hA⟩; have HAz : Hid (Added w3 wz B x f k v) := hA; clear hA))
        go_wp2
        go_meet
        exact HAz
      case rest =>
      clear HDw HSd HSd2 HAd HLf3
      obtain ⟨f', hG, hp, hone, hful⟩ := hcut.out
      have hD3 := HD3.out
      have hblk : wc.heap[d]? = w3.heap[d]? := hG.stay.block d hD3.lt (hD3.apart Hf.out)
      have hc2 : wc.cell? ⟨d, 1, none⟩ = some (.int .i64 (D1.es.length : Nat)) := by rw [World.cell?_of_block hblk]; exact hD3.ccnt
      have hf2 : wc.frozen? ⟨d, 1, none⟩ = false := by have := hD3.blk; rw [← hblk] at this; simp [World.frozen?, this]
      have hPm2 : (esL (La ++ f' :: Lc)).Perm (D1.es ++ [(k, v)]) := by
        unfold Dg.es
        rw [HeL.out, esL_append, esL_append, esL_cons, esL_cons, List.append_assoc]
        refine List.Perm.append_left _ ?_
        refine (hp.append_right _).trans ?_
        rw [List.append_assoc, List.append_assoc]
        exact List.Perm.append_left _ List.perm_append_comm
      have hlen : (esL (La ++ f' :: Lc)).length = D1.es.length + 1 := by rw [hPm2.length_eq, List.length_append]; rfl
      have hle1 : D1.es.length < 1000000 := by rw [HPm.out.length_eq]; exact HLe.out
      have HRR : Hid (∃ D', Turn w (wc.setCell ⟨d, 1, none⟩ (.int .i64 ((esL (La ++ f' :: Lc)).length : Nat))) B d x D D' ∧ (D'.g, D'.sh) = R ∧ D'.es.Perm (D.es ++ [(k, v)])) := by
        have hT := hD3.turn HeL.out hG (w'' := wc.setCell ⟨d, 1, none⟩ (.int .i64 ((esL (La ++ f' :: Lc)).length : Nat))) (by have := hD3.blk; rw [← hblk] at this; rw [heap_set this]; rfl) Stay.set ?_ ?_ ?_ (by omega)
        · refine ⟨_, HT3.out.trans hT, ?_, hPm2.trans (HPm.out.append_right _)⟩
          have e1 : f'.pt = f.pt := by unfold Lf.pt; rw [hG.l, hG.q]
          rw [← HR5.out]
          refine Prod.ext rfl ?_
          show shL _ = shL _
          unfold shL
          rw [HeL.out, List.map_append, List.map_append, List.map_cons, List.map_cons, e1]
        · intro en he
          rcases List.mem_append.1 (hp.mem_iff.1 he) with he | he
          · exact hD3.own f Hf.out en he
          · rw [List.mem_singleton.1 he]
            show isIn f.pt (hsh x k) = true
            rw [HEh.out]
            exact Hi.out
        · intro hl
          have h1 := hD3.one f Hf.out hl
          refine hone h1 ?_
          rcases Nat.lt_or_ge f.es.length 112 with h5 | h5
          · exact h5
          · exact absurd ⟨hl, h5⟩ HBn.out
        · exact hful (hD3.ful f Hf.out)
      generalize hn : (esL (La ++ f' :: Lc)).length = n at hlen HRR
      generalize D1.es.length = m at hlen hc2 hle1
      have hnz : (m : Int) + 1 = (n : Nat) := by omega
      clear hG hp hone hful hD3 hblk hPm2 hn hcut hlen
      go_wp2
      go_ret
      exact ⟨rfl, HRR.out⟩
end Go.Proofs.Ytejnmikbbnckeaa

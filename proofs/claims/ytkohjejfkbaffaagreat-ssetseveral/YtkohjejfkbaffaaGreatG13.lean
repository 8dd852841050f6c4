/-
  How a directory grows ahead of a new key: parts are split, one behind the other, until there is room. Pure.
  The law's name and key; the books' Lists.
  What a call may turn, told by the blocks' types; a dict as what it has: its depth, its parts, its entries in whatever order.
  The law's known; how much room a part has.
  Put, Delete and Get as functions of what is there; two dicts, side by side.
  A set in memory: its own block; the pack, or the dict, that has its members; its blocks.
  dictOf, New, unpack, fits: how a set is made, and laid into a dict.
-/
import Derived.Test.YtkohjejfkbaffaaGreatG12
import Derived.Test.YtkohjejfkbaffaaGreatG5
import Derived.Test.YtkohjejfkbaffaaGreatG6
import Derived.Deep.RegionHeld3
namespace Go.Proofs.YtkohjejfkbaffaaGreat.Dk
open Go.RowKit Go.PlainAid

/-- How many keys belong to a part. -/
def cntIn (x : Nat) (ks : List ByteArray) (s : Pt) : Nat := (ks.filter fun k => isIn s (hsh x k)).length
theorem cntIn_perm {x : Nat} {ks ks' : List ByteArray} (h : ks.Perm ks') (s : Pt) : cntIn x ks s = cntIn x ks' s := (h.filter _).length_eq
/-- Which part a hash belongs to. -/
def pidx (sh : List Pt) (h : Nat) : Nat := sh.findIdx fun s => isIn s h
def grow (x : Nat) (ks : List ByteArray) (h : Nat) : Nat → Nat → List Pt → Nat × List Pt
  | 0, g, sh => (g, sh)
  | n + 1, g, sh =>
    match sh[pidx sh h]? with
    | some (l, q) => if l < 16 ∧ 112 ≤ cntIn x ks (l, q) then grow x ks h n (max g (l + 1)) (sh.set (pidx sh h) (l + 1, q) ++ [(l + 1, q + 2 ^ l)]) else (g, sh)
    | none => (g, sh)
theorem pidx_at {a c : List Pt} {s : Pt} {h : Nat} (hi : isIn s h = true) (ha : ∀ t ∈ a, isIn t h = false) : pidx (a ++ s :: c) h = a.length := by
  unfold pidx
  rw [List.findIdx_append, List.findIdx_eq_length.2 (by intro t ht; exact ha t ht)]
  simp [List.findIdx_cons, hi]
theorem grow_yes {x : Nat} {ks : List ByteArray} {h n g : Nat} {a c : List Pt} {l q : Nat} (hi : isIn (l, q) h = true) (ha : ∀ t ∈ a, isIn t h = false) (h1 : l < 16) (h2 : 112 ≤ cntIn x ks (l, q)) :
    grow x ks h (n + 1) g (a ++ (l, q) :: c) = grow x ks h n (max g (l + 1)) (a ++ (l + 1, q) :: (c ++ [(l + 1, q + 2 ^ l)])) := by
  rw [grow, pidx_at hi ha, List.getElem?_append_right (Nat.le_refl _), Nat.sub_self]
  simp only [List.getElem?_cons_zero]
  rw [if_pos ⟨h1, h2⟩, List.set_append_right _ _ (Nat.le_refl _), Nat.sub_self]
  simp
theorem grow_no {x : Nat} {ks : List ByteArray} {h n g : Nat} {a c : List Pt} {l q : Nat} (hi : isIn (l, q) h = true) (ha : ∀ t ∈ a, isIn t h = false) (h1 : ¬ (l < 16 ∧ 112 ≤ cntIn x ks (l, q))) :
    grow x ks h n g (a ++ (l, q) :: c) = (g, a ++ (l, q) :: c) := by
  cases n with
  | zero => rfl
  | succ n =>
    rw [grow, pidx_at hi ha, List.getElem?_append_right (Nat.le_refl _), Nat.sub_self]
    simp only [List.getElem?_cons_zero]
    rw [if_neg h1]
theorem grow_perm {x : Nat} {ks ks' : List ByteArray} (hp : ks.Perm ks') (h : Nat) : ∀ n g sh, grow x ks h n g sh = grow x ks' h n g sh
  | 0, _, _ => rfl
  | n + 1, g, sh => by
    rw [grow, grow]
    cases sh[pidx sh h]? with
    | none => rfl
    | some s =>
      obtain ⟨l, q⟩ := s
      simp only
      rw [cntIn_perm hp, grow_perm hp h n]

/-- The keys of a leaf are those of its part. -/
theorem Dct.keys_of {w : World} {B d x : Nat} {D : Dg} (h : Dct w B d x D) {La Lc : List Lf} {f : Lf} (e : D.L = La ++ f :: Lc) : (keysOf D.es).filter (fun k => isIn f.pt (hsh x k)) = keysOf f.es := by
  have hnod := h.nod
  rw [e, fpL_append, fpL_cons] at hnod
  obtain ⟨-, n2⟩ := List.nodup_cons.1 hnod
  obtain ⟨-, n4⟩ := List.nodup_cons.1 n2
  rw [List.nodup_append, List.nodup_append] at n4
  obtain ⟨-, ⟨-, -, n8⟩, n9⟩ := n4
  have hf : f ∈ D.L := by rw [e]; simp
  have hno : ∀ (M : List Lf), (∀ u ∈ M, u ∈ D.L ∧ u ≠ f) → (keysOf (esL M)).filter (fun k => isIn f.pt (hsh x k)) = [] := by
    intro M hM
    rw [List.filter_eq_nil_iff]
    intro k hk hd
    obtain ⟨en, he, rfl⟩ := List.mem_map.1 hk
    obtain ⟨u, hu, he⟩ := List.mem_flatMap.1 he
    exact (hM u hu).2 (h.same (hM u hu).1 hf (h.own u (hM u hu).1 en he) hd)
  have ha : ∀ u ∈ La, u ∈ D.L ∧ u ≠ f := fun u hu => ⟨by rw [e]; simp [hu], fun e2 => by subst e2; exact n9 u.a (mem_fpL hu (by simp [Lf.fp])) u.a (by simp [Lf.fp]) rfl⟩
  have hc : ∀ u ∈ Lc, u ∈ D.L ∧ u ≠ f := fun u hu => ⟨by rw [e]; simp [hu], fun e2 => by subst e2; exact n8 u.a (by simp [Lf.fp]) u.a (mem_fpL hu (by simp [Lf.fp])) rfl⟩
  unfold Dg.es
  rw [e, esL_append, esL_cons, keysOf_append, keysOf_append, List.filter_append, List.filter_append, hno La ha, hno Lc hc, List.nil_append, List.append_nil, List.filter_eq_self]
  intro k hk
  obtain ⟨en, he, rfl⟩ := List.mem_map.1 hk
  exact h.own f hf en he
theorem Dct.cnt_of {w : World} {B d x : Nat} {D : Dg} (h : Dct w B d x D) {La Lc : List Lf} {f : Lf} (e : D.L = La ++ f :: Lc) : cntIn x (keysOf D.es) f.pt = f.es.length := by
  unfold cntIn
  rw [h.keys_of e, List.length_map]

set_option maxRecDepth 100000 in
set_option maxHeartbeats 8000000 in
theorem PutD_new (B d x : Nat) (D : Dg) (k : ByteArray) (v : Unit) (w : World) (hD : Dct w B d x D) (hks : k.size ≤ maxLen) (hk : k ∉ keysOf D.es) (hle : D.es.length < 1000000) :
    Calls Tryz.prog 35 #[ptr d, .string k, .agg #[]] w fun e w' => e = .returned (.int .i64 0) ∧ ∃ D', Turn w w' B d x D D' ∧ (D'.g, D'.sh) = grow x (keysOf D.es) (hsh x k) 17 D.g D.sh ∧ D'.es.Perm (D.es ++ [(k, v)]) := by
  obtain ⟨La, f, Lc, eL, hi, h2, h3⟩ := hD.parts (hsh x k)
  have hf : f ∈ D.L := by rw [eL]; simp
  have HD : Hid (Dct w B d x D) := hD
  have Hf : Hid (f ∈ D.L) := hf
  obtain ⟨wa, hwa⟩ : ∃ wa, w.alloc (.cells #[] 73) = wa := ⟨_, rfl⟩
  have HBa : Hid (Below w.heap.size w wa) := by rw [← hwa]; exact alloc_below w _
  have HDa : Hid (Dct wa B d x D) := hD.keep HBa.out
  have hc := HDa.out.cseed
  have hx := hD.seed
  have HOf := fun w => Of_hsh x k w hks hx
  have HLf := fun w hD => leafOf_any B d x D f (hsh x k) w hD hf hi (hsh_lt x k)
  have HHo := fun w hL => holder_no B x f k w hL hks (fun hm => hk ((hD.memk eL h2 h3).2 hm))
  have HKS : Hid (k.size ≤ maxLen) := hks
  have HK : Hid (k ∉ keysOf D.es) := hk
  have HLe : Hid (D.es.length < 1000000) := hle
  have HHs : Hid (hsh x k = hsh x k) := rfl
  obtain ⟨h, eh⟩ : ∃ h, hsh x k = h := ⟨_, rfl⟩
  have HEh : Hid (hsh x k = h) := eh
  have hh : h < 18446744073709551616 := by rw [← eh]; exact hsh_lt x k
  rw [eh] at HOf HLf ⊢
  obtain ⟨R, hR⟩ : ∃ R, grow x (keysOf D.es) h 17 D.g D.sh = R := ⟨_, rfl⟩
  have HR : Hid (grow x (keysOf D.es) h 17 D.g D.sh = R) := hR
  rw [hR]
  clear hD hk hks hle hi h2 h3 eL hf eh hR HHs
  go_enter Tryz.func35, Tryz.ntmps35
  go_wp2_with fail
  refine (HOf _).mono ?_
  rintro e w9 ⟨rfl, rfl⟩
  go_wp2_with fail
  refine (HLf _ HDa.out).mono ?_
  rintro e w1 ⟨rfl, hb1⟩
  have HB1 := step_below HBa hb1
  have hHo := HHo _ ((HD.out.keep HB1.out).leaf f Hf.out)
  clear HOf HLf HHo hb1
  go_wp2_with fail
  refine hHo.mono ?_
  rintro e w2 ⟨rfl, hb2⟩
  have HB2 := step_below HB1 hb2
  have HT2 : Hid (Turn w w2 B d x D D) := Turn.refl HD.out HB2.out
  clear hb2 hHo HB1 hc Hf HB2
  go_wp2
  go_loopg [] 17 (fun n wr => ∃ D1, Hid (Turn w wr B d x D D1) ∧ Hid (D1.es.Perm D.es) ∧ Hid (grow x (keysOf D.es) h n D1.g D1.sh = R) ∧ Hid (∀ f ∈ D1.L, isIn f.pt h = true → 16 < f.l + n))
  case atStart => exact ⟨D, HT2, List.Perm.refl _, HR, (fun f _ _ => by omega : ∀ f ∈ D.L, isIn f.pt h = true → 16 < f.l + 17)⟩
  case round =>
    clear HT2 HR
    obtain ⟨D1, HT, HPm, HR, HMe⟩ := hrel
    have hD1 := HT.out.dct
    obtain ⟨La, f, Lc, eL, hi, h2, h3⟩ := hD1.parts h
    have hf : f ∈ D1.L := by rw [eL]; simp
    have HLf := fun w hD => leafOf_any B d x D1 f h w hD hf hi hh
    have hlf := hD1.lef hf
    have HSp := fun w hL => splits_any B x f w hL hlf.2.1 (hD1.les hf)
    have HeL : Hid (D1.L = La ++ f :: Lc) := eL
    have Hf : Hid (f ∈ D1.L) := hf
    have Hi : Hid (isIn f.pt h = true) := hi
    have Ha : Hid (∀ u ∈ La, isIn u.pt h = false) := h2
    have Hcc : Hid (∀ u ∈ Lc, isIn u.pt h = false) := h3
    have HD1 : Hid (Dct wr B d x D1) := hD1
    have HCn : Hid (cntIn x (keysOf D.es) f.pt = f.es.length) := by show _ = _; rw [cntIn_perm (HPm.out.map (·.1)).symm]; exact hD1.cnt_of eL
    have HshE : Hid (D1.sh = shL La ++ (f.l, f.q) :: shL Lc) := by show _ = _; unfold Dg.sh shL; rw [eL, List.map_append]; rfl
    have Ha2 : Hid (∀ s ∈ shL La, isIn s h = false) := fun s hs => by obtain ⟨u, hu, rfl⟩ := List.mem_map.1 hs; exact h2 u hu
    have hme := HMe.out f hf hi
    clear hD1 hf hi h2 h3 eL
    go_wp2_with fail
    refine (HLf _ HD1.out).mono ?_
    rintro e w3 ⟨rfl, hb3⟩
    have HB3 : Hid (Below wr.heap.size wr w3) := hb3
    have hSp := HSp _ ((HD1.out.keep hb3).leaf f Hf.out)
    clear hb3
    go_wp2_with fail
    refine hSp.mono ?_
    rintro e w3 ⟨rfl, rfl⟩
    clear hSp HSp
    by_cases hb : f.l < 16 ∧ 112 ≤ f.es.length
    · have hbb : (decide (f.l < 16) && decide (112 ≤ f.es.length)) = true := by rw [decide_eq_true hb.1, decide_eq_true hb.2]; rfl
      have hS := split_any B d x D1 La Lc f h w3 (HD1.out.keep HB3.out) HeL.out Hi.out hb.1 hh
      have HBo : Hid (f.l < 16 ∧ 112 ≤ f.es.length) := hb
      clear hb HLf
      rw [hbb]
      go_wp2_with fail
      refine hS.mono ?_
      rintro e w4 ⟨rfl, f0, f1, pb1, cap1, pl1, hSS⟩
      obtain ⟨hT4, hp4⟩ := (HD1.out.keep HB3.out).split HeL.out HBo.out.1 hSS
      have HT4 : Hid (Turn w w4 B d x D ⟨max D1.g (f.l + 1), pb1, cap1, pl1, La ++ f0 :: (Lc ++ [f1])⟩) := HT.out.trans (hT4.first HB3.out)
      have HP4 : Hid ((⟨max D1.g (f.l + 1), pb1, cap1, pl1, La ++ f0 :: (Lc ++ [f1])⟩ : Dg).es.Perm D.es) := hp4.trans HPm.out
      obtain ⟨n, rfl⟩ : ∃ n, gk = n + 1 := ⟨gk - 1, by have := HBo.out.1; omega⟩
      have HR4 : Hid (grow x (keysOf D.es) h n (max D1.g (f.l + 1)) (⟨max D1.g (f.l + 1), pb1, cap1, pl1, La ++ f0 :: (Lc ++ [f1])⟩ : Dg).sh = R) := by
        have := HR.out
        rw [HshE.out, grow_yes (a := shL La) (c := shL Lc) (l := f.l) (q := f.q) Hi.out Ha2.out HBo.out.1 (by have := HCn.out; unfold Lf.pt at this; rw [this]; exact HBo.out.2)] at this
        have e1 : (⟨max D1.g (f.l + 1), pb1, cap1, pl1, La ++ f0 :: (Lc ++ [f1])⟩ : Dg).sh = shL La ++ (f.l + 1, f.q) :: (shL Lc ++ [(f.l + 1, f.q + 2 ^ f.l)]) := by
          show shL _ = _
          unfold shL
          rw [List.map_append, List.map_cons, List.map_append, hSS.pt0]
          show _ ++ _ :: (_ ++ [f1.pt]) = _
          rw [hSS.pt1]
        show grow _ _ _ _ _ _ = _
        rw [e1]
        exact this
      have HM4 : Hid (∀ u ∈ La ++ f0 :: (Lc ++ [f1]), isIn u.pt h = true → 16 < u.l + n) := by
        intro u hu hiu
        simp only [List.mem_append, List.mem_cons, List.not_mem_nil, or_false] at hu
        rcases hu with hu | rfl | hu | rfl
        · rw [Ha.out u hu] at hiu; cases hiu
        · have := congrArg Prod.fst hSS.pt0
          simp only [Lf.pt] at this
          omega
        · rw [Hcc.out u hu] at hiu; cases hiu
        · have := congrArg Prod.fst hSS.pt1
          simp only [Lf.pt] at this
          omega
      clear hS hSS hT4 hp4 hbb
      go_wp2
      go_roundg n
      case measure => omega
      case rel => exact ⟨_, HT4, HP4, HR4, HM4⟩
    · have hbb : (decide (f.l < 16) && decide (112 ≤ f.es.length)) = false := by
        rw [Bool.and_eq_false_iff, decide_eq_false_iff_not, decide_eq_false_iff_not]
        by_cases h1 : f.l < 16
        · exact .inr (fun h2 => hb ⟨h1, h2⟩)
        · exact .inl h1
      have HBn : Hid (¬ (f.l < 16 ∧ 112 ≤ f.es.length)) := hb
      have HR5 : Hid ((D1.g, D1.sh) = R) := by
        have := HR.out
        rw [HshE.out, grow_no (a := shL La) (c := shL Lc) (l := f.l) (q := f.q) Hi.out Ha2.out (by have h9 := HCn.out; unfold Lf.pt at h9; rw [h9]; exact hb), ← HshE.out] at this
        exact this
      rw [hbb]
      clear hb hbb
      have HD3 : Hid (Dct w3 B d x D1) := HD1.out.keep HB3.out
      have HT3 : Hid (Turn w w3 B d x D D1) := HT.out.trans (Turn.refl HD1.out HB3.out)
      have HKf : Hid (k ∉ keysOf f.es) := fun hm => by
        obtain ⟨en, he, h1⟩ := List.mem_map.1 hm
        exact HK.out (List.mem_map.2 ⟨en, HPm.out.mem_iff.1 (mem_esL Hf.out he), h1⟩)
      have HLf3 : ∀ w', Below w3.heap.size w3 w' → Calls Tryz.prog 59 #[ptr d, .int .u64 h] w' fun e w'' => e = .returned (ptr f.a) ∧ Below w'.heap.size w' w'' := fun w' hb => leafOf_any B d x D1 f h w' (HD3.out.keep hb) Hf.out Hi.out hh
      have HAd : ∀ w', Below w3.heap.size w3 w' → Calls Tryz.prog 64 #[ptr f.a, .int .u64 x, .string k, .agg #[]] w' fun e w'' => e = .returned (.tuple #[]) ∧ Added w3 w'' B x f k v := fun w' hb => by
        refine (add_leaf B x f k v w' ((HD3.out.keep hb).leaf f Hf.out) hx HKS.out HKf.out (by have h1 := (HD3.out.ful f Hf.out).le; have h2 := HD3.out.les Hf.out; omega) (by have h1 := (HD3.out.keep hb).low; have h2 := (HD3.out.keep hb).lt; omega)).mono ?_
        rintro e w'' ⟨rfl, f', hG, hp, ho, hfu⟩
        exact ⟨rfl, f', hG.first hb, hp, ho, hfu⟩
      have HSd : Hid (∀ w', Below w3.heap.size w3 w' → w'.cell? ⟨d, 0, none⟩ = some (.int .u64 (x : Nat))) := fun w' hb => (HD3.out.keep hb).cseed
      have HSd2 : Hid (∀ w', Added w3 w' B x f k v → w'.cell? ⟨d, 0, none⟩ = some (.int .u64 (x : Nat))) := fun w' hA => by
        obtain ⟨f', hG, -⟩ := hA
        rw [World.cell?_of_block (hG.stay.block d HD3.out.lt (HD3.out.apart Hf.out))]
        exact HD3.out.cseed
      have HDw : Hid (Below w3.heap.size w3 w3.drew) := below_drewN w3 1
      clear HLf HB3 HT HD1
      go_upto_region 7 with fail
      go_cut [] from 33 to 42 (fun wx => Hid (Added w3 wx B x f k v))
      case first =>
        go_region_held3 (fun w' => w'.cell? ⟨d, 0, none⟩ = some (.int .u64 (x : Nat))) (first | exact HSd.out _ HDw.out | exact HSd2.out _ HAz.out) (first
          | (go_at_call 59; refine (HLf3 _ HDw.out).mono ?_; rintro e wx ⟨rfl, hb⟩; replace HDw := step_below HDw hb; clear hb)
          | (go_at_call 64; refine (HAd _ HDw.out).mono ?_; rintro e wz ⟨rfl, hA⟩; have HAz : Hid (Added w3 wz B x f k v) := hA; clear hA))
        go_wp2
        go_meet
        exact HAz
      case rest =>
      clear HDw HSd HSd2 HAd HLf3
      obtain ⟨f', hG, hp, hone, hful⟩ := hcut.out
      have hD3 := HD3.out
      have hblk : wc.heap[d]? = w3.heap[d]? := hG.stay.block d hD3.lt (hD3.apart Hf.out)
      have hc2 : wc.cell? ⟨d, 1, none⟩ = some (.int .i64 (D1.es.length : Nat)) := by rw [World.cell?_of_block hblk]; exact hD3.ccnt
      have hf2 : wc.frozen? ⟨d, 1, none⟩ = false := by have := hD3.blk; rw [← hblk] at this; simp [World.frozen?, this]
      have hPm2 : (esL (La ++ f' :: Lc)).Perm (D1.es ++ [(k, v)]) := by
        unfold Dg.es
        rw [HeL.out, esL_append, esL_append, esL_cons, esL_cons, List.append_assoc]
        refine List.Perm.append_left _ ?_
        refine (hp.append_right _).trans ?_
        rw [List.append_assoc, List.append_assoc]
        exact List.Perm.append_left _ List.perm_append_comm
      have hlen : (esL (La ++ f' :: Lc)).length = D1.es.length + 1 := by rw [hPm2.length_eq, List.length_append]; rfl
      have hle1 : D1.es.length < 1000000 := by rw [HPm.out.length_eq]; exact HLe.out
      have HRR : Hid (∃ D', Turn w (wc.setCell ⟨d, 1, none⟩ (.int .i64 ((esL (La ++ f' :: Lc)).length : Nat))) B d x D D' ∧ (D'.g, D'.sh) = R ∧ D'.es.Perm (D.es ++ [(k, v)])) := by
        have hT := hD3.turn HeL.out hG (w'' := wc.setCell ⟨d, 1, none⟩ (.int .i64 ((esL (La ++ f' :: Lc)).length : Nat))) (by have := hD3.blk; rw [← hblk] at this; rw [heap_set this]; rfl) Stay.set ?_ ?_ ?_ (by omega)
        · refine ⟨_, HT3.out.trans hT, ?_, hPm2.trans (HPm.out.append_right _)⟩
          have e1 : f'.pt = f.pt := by unfold Lf.pt; rw [hG.l, hG.q]
          rw [← HR5.out]
          refine Prod.ext rfl ?_
          show shL _ = shL _
          unfold shL
          rw [HeL.out, List.map_append, List.map_append, List.map_cons, List.map_cons, e1]
        · intro en he
          rcases List.mem_append.1 (hp.mem_iff.1 he) with he | he
          · exact hD3.own f Hf.out en he
          · rw [List.mem_singleton.1 he]
            show isIn f.pt (hsh x k) = true
            rw [HEh.out]
            exact Hi.out
        · intro hl
          have h1 := hD3.one f Hf.out hl
          refine hone h1 ?_
          rcases Nat.lt_or_ge f.es.length 112 with h5 | h5
          · exact h5
          · exact absurd ⟨hl, h5⟩ HBn.out
        · exact hful (hD3.ful f Hf.out)
      generalize hn : (esL (La ++ f' :: Lc)).length = n at hlen HRR
      generalize D1.es.length = m at hlen hc2 hle1
      have hnz : (m : Int) + 1 = (n : Nat) := by omega
      clear hG hp hone hful hD3 hblk hPm2 hn hcut hlen
      go_wp2
      go_ret
      exact ⟨rfl, HRR.out⟩
end Go.Proofs.YtkohjejfkbaffaaGreat.Dk

namespace Go.Proofs.YtkohjejfkbaffaaGreat.Dk
open Go.RowKit Go.PlainAid

/-- The letters of the n-th name, from the i-th on. -/
def letter (n : Nat) : ByteArray := Utf8.encode (97 + ((n % 26 : Nat) : Int))
def nmF : Nat → ByteArray → Nat → ByteArray
  | 0, s, _ => s
  | i + 1, s, n => nmF i (s ++ letter n) (n / 26)
/-- The n-th name. -/
def nm (n : Nat) : ByteArray := nmF 4 ⟨#[107]⟩ n
theorem letter_size (n : Nat) : (letter n).size ≤ 4 := encode_size _
theorem nmF_size : ∀ (i : Nat) (s : ByteArray) (n : Nat), (nmF i s n).size ≤ s.size + 4 * i
  | 0, s, n => by simp [nmF]
  | i + 1, s, n => by
    have h1 := nmF_size i (s ++ letter n) (n / 26)
    have h2 := letter_size n
    rw [ByteArray.size_append] at h1
    show (nmF i (s ++ letter n) (n / 26)).size ≤ _
    omega
theorem nm_size (n : Nat) : (nm n).size ≤ 1000 := by
  have := nmF_size 4 ⟨#[107]⟩ n
  have h : (⟨#[107]⟩ : ByteArray).size = 1 := rfl
  unfold nm
  omega
theorem nm_max (n : Nat) : (nm n).size ≤ maxLen := Nat.le_trans (nm_size n) (by decide)
theorem letter_one : ∀ r, r < 26 → (Utf8.encode (97 + ((r : Nat) : Int))).data = #[UInt8.ofNat (97 + r)] := by decide +kernel
theorem letter_data (n : Nat) : (letter n).data = #[UInt8.ofNat (97 + n % 26)] := letter_one _ (Nat.mod_lt _ (by decide))
theorem nm_data (n : Nat) : (nm n).data = #[107, UInt8.ofNat (97 + n % 26), UInt8.ofNat (97 + n / 26 % 26), UInt8.ofNat (97 + n / 26 / 26 % 26), UInt8.ofNat (97 + n / 26 / 26 / 26 % 26)] := by
  show ((((⟨#[107]⟩ : ByteArray) ++ letter n) ++ letter (n / 26)) ++ letter (n / 26 / 26) ++ letter (n / 26 / 26 / 26)).data = _
  rw [ByteArray.data_append, ByteArray.data_append, ByteArray.data_append, ByteArray.data_append, letter_data, letter_data, letter_data, letter_data]
  rfl
theorem byte_inj {a b : Nat} (ha : a < 26) (hb : b < 26) (h : UInt8.ofNat (97 + a) = UInt8.ofNat (97 + b)) : a = b := by
  have := congrArg UInt8.toNat h
  rw [UInt8.toNat_ofNat', UInt8.toNat_ofNat'] at this
  omega
theorem nm_inj {n m : Nat} (hn : n < 456976) (hm : m < 456976) (h : nm n = nm m) : n = m := by
  have h1 : (nm n).data = (nm m).data := by rw [h]
  rw [nm_data, nm_data] at h1
  simp only [Array.mk.injEq, List.cons.injEq, and_true, true_and] at h1
  obtain ⟨e1, e2, e3, e4⟩ := h1
  have f1 := byte_inj (Nat.mod_lt _ (by decide)) (Nat.mod_lt _ (by decide)) e1
  have f2 := byte_inj (Nat.mod_lt _ (by decide)) (Nat.mod_lt _ (by decide)) e2
  have f3 := byte_inj (Nat.mod_lt _ (by decide)) (Nat.mod_lt _ (by decide)) e3
  have f4 := byte_inj (Nat.mod_lt _ (by decide)) (Nat.mod_lt _ (by decide)) e4
  omega

end Go.Proofs.YtkohjejfkbaffaaGreat.Dk

namespace Go.Proofs.YtkohjejfkbaffaaGreat.Dk
open Go.RowKit Go.PlainAid

/-- The types of a dict's blocks; those of the document's own. -/
def dtag (t : TypeId) : Bool := t == 94 || t == 96 || t == 112 || t == 95 || t == 120 || t == 128
/-- All is as it was, but for blocks of some types and what is new. -/
structure Mv (p : TypeId → Bool) (w w' : World) : Prop where
  os : w'.os = w.os
  tape : w'.tape = w.tape
  output : w'.output = w.output
  size : w.heap.size ≤ w'.heap.size
  block : ∀ (k : Nat) (cs : Array Value) (t : TypeId), w.heap[k]? = some (Obj.cells cs t (0, 0)) → p t = false → w'.heap[k]? = w.heap[k]?
theorem Mv.of_below {p : TypeId → Bool} {w w' : World} (h : Below w.heap.size w w') : Mv p w w' := ⟨h.os, h.tape, h.output, h.size, fun k _ _ hk _ => h.block k (Array.getElem?_eq_some_iff.1 hk).1⟩
theorem Mv.trans {p : TypeId → Bool} {w w1 w2 : World} (h : Mv p w w1) (k : Mv p w1 w2) : Mv p w w2 :=
  ⟨k.os.trans h.os, k.tape.trans h.tape, k.output.trans h.output, Nat.le_trans h.size k.size, fun i cs t hi ht => by
    have h1 := h.block i cs t hi ht
    rw [← h1]
    exact k.block i cs t (by rw [h1]; exact hi) ht⟩
/-- The blocks that may be turned. -/
def chg (p : TypeId → Bool) (w : World) : List Nat := (List.range w.heap.size).filter fun k =>
  match w.heap[k]? with
  | some (.cells _ t (0, 0)) => p t
  | _ => true
theorem chg_no {p : TypeId → Bool} {w : World} {k : Nat} {cs : Array Value} {t : TypeId} (h : w.heap[k]? = some (.cells cs t (0, 0))) (ht : p t = false) : k ∉ chg p w := by
  unfold chg
  rw [List.mem_filter, h]
  simp [ht]
theorem Mv.stay {p : TypeId → Bool} {w w' : World} (h : Mv p w w') : Stay w w' (chg p w) := by
  refine ⟨h.os, h.tape, h.output, h.size, fun k hk hn => ?_⟩
  unfold chg at hn
  rw [List.mem_filter, not_and] at hn
  have h1 := hn (List.mem_range.2 hk)
  cases hc : w.heap[k]? with
  | none => rw [Array.getElem?_eq_none_iff] at hc; omega
  | some o =>
    rw [hc] at h1
    rw [← hc]
    split at h1
    · rename_i cs t e
      exact h.block k cs t (by rw [hc]; exact e) (by simpa using h1)
    · simp at h1
theorem OwnR.mv {p : TypeId → Bool} {w w' : World} {B : Nat} {e : TypeId} {s : Nat} {a : Option Addr} {n cap : Nat} {cs : List Value} (h : OwnR w B e s a n cap cs) (hm : Mv p w w') (he : p e = false) : OwnR w' B e s a n cap cs :=
  h.kept fun k hk => by
    obtain ⟨-, -, cur, h1⟩ := h.lt hk
    exact hm.block k cur e h1 he

theorem Leaf.tags {w : World} {B x : Nat} {f : Lf} (h : Leaf w B x f) : ∀ k ∈ f.fp, ∃ cs t, w.heap[k]? = some (.cells cs t (0, 0)) ∧ dtag t = true := by
  intro k hk
  rcases List.mem_cons.1 hk with rfl | hk
  · exact ⟨_, _, h.blk, rfl⟩
  rcases List.mem_cons.1 hk with rfl | hk
  · obtain ⟨-, -, cur, h1⟩ := OwnR.lt h.row (k := f.tb) rfl
    exact ⟨_, _, h1, rfl⟩
  · obtain ⟨t, ht, hk⟩ := List.mem_flatMap.1 hk
    have hT := h.tab t ht
    simp only [Tb.fp, List.mem_cons, List.not_mem_nil, or_false] at hk
    rcases hk with rfl | rfl
    · exact ⟨_, _, hT.top.blk, rfl⟩
    · obtain ⟨cs, h1, -⟩ := hT.row.ex
      exact ⟨_, _, h1, rfl⟩
theorem Dct.tags {w : World} {B d x : Nat} {D : Dg} (h : Dct w B d x D) : ∀ k ∈ D.fp d, ∃ cs t, w.heap[k]? = some (.cells cs t (0, 0)) ∧ dtag t = true := by
  intro k hk
  rcases List.mem_cons.1 hk with rfl | hk
  · exact ⟨_, _, h.blk, rfl⟩
  rcases List.mem_cons.1 hk with rfl | hk
  · obtain ⟨-, -, cur, h1⟩ := OwnR.lt h.row (k := D.pb) rfl
    exact ⟨_, _, h1, rfl⟩
  · obtain ⟨f, hf, hk⟩ := List.mem_flatMap.1 hk
    exact (h.leaf f hf).tags k hk
theorem Dct.mv {w w' : World} {B d x : Nat} {D : Dg} (h : Dct w B d x D) {p : TypeId → Bool} (hm : Mv p w w') (hp : ∀ t, dtag t = true → p t = false) : Dct w' B d x D :=
  h.stay hm.stay (fun k hk => by
    obtain ⟨cs, t, h1, h2⟩ := h.tags k hk
    exact chg_no h1 (hp t h2))
theorem Turn.mv {w w' : World} {B d x : Nat} {D D' : Dg} (h : Turn w w' B d x D D') (hD : Dct w B d x D) : Mv dtag w w' :=
  ⟨h.stay.os, h.stay.tape, h.stay.output, h.stay.size, fun k cs t hk ht => h.stay.block k (Array.getElem?_eq_some_iff.1 hk).1 (fun hm => by
    obtain ⟨cs', t', h1, h2⟩ := hD.tags k hm
    rw [h1] at hk
    simp at hk
    rw [hk.2] at h2
    rw [h2] at ht
    cases ht)⟩
/-- A dict at d by the seed x: its depth, its parts, what it has. -/
def Dic (w : World) (B d x g : Nat) (sh : List Pt) (es : List En) : Prop := ∃ D, Dct w B d x D ∧ D.g = g ∧ D.sh = sh ∧ D.es.Perm es
theorem Dic.keep {w wn : World} {B d x g : Nat} {sh : List Pt} {es : List En} (h : Dic w B d x g sh es) (hb : Below w.heap.size w wn) : Dic wn B d x g sh es := by
  obtain ⟨D, h1, h2, h3, h4⟩ := h
  exact ⟨D, h1.keep hb, h2, h3, h4⟩
theorem Dic.mv {w w' : World} {B d x g : Nat} {sh : List Pt} {es : List En} (h : Dic w B d x g sh es) {p : TypeId → Bool} (hm : Mv p w w') (hp : ∀ t, dtag t = true → p t = false) : Dic w' B d x g sh es := by
  obtain ⟨D, h1, h2, h3, h4⟩ := h
  exact ⟨D, h1.mv hm hp, h2, h3, h4⟩
theorem Dic.shp {w : World} {B d x g : Nat} {sh : List Pt} {es : List En} (h : Dic w B d x g sh es) : Shp g sh := by
  obtain ⟨D, h1, h2, h3, h4⟩ := h
  rw [← h2, ← h3]
  exact h1.shp
theorem Dic.perm {w : World} {B d x g : Nat} {sh : List Pt} {es fs : List En} (h : Dic w B d x g sh es) (hp : es.Perm fs) : Dic w B d x g sh fs := by
  obtain ⟨D, h1, h2, h3, h4⟩ := h
  exact ⟨D, h1, h2, h3, h4.trans hp⟩
/-- Keys of unlike leaves are unlike. -/
theorem Dct.nodk {w : World} {B d x : Nat} {D : Dg} (h : Dct w B d x D) : (keysOf D.es).Nodup := by
  have key : ∀ (M : List Lf), (∀ u ∈ M, u ∈ D.L) → M.Nodup → (keysOf (esL M)).Nodup := by
    intro M
    induction M with
    | nil => intro _ _; exact List.nodup_nil
    | cons f M ih =>
      intro hM hn
      rw [List.nodup_cons] at hn
      rw [esL_cons, keysOf_append, List.nodup_append]
      refine ⟨(h.leaf f (hM f (by simp))).key, ih (fun u hu => hM u (List.mem_cons_of_mem _ hu)) hn.2, ?_⟩
      intro a ha b hb e
      subst e
      obtain ⟨e1, h1, rfl⟩ := List.mem_map.1 ha
      obtain ⟨e2, h2, h3⟩ := List.mem_map.1 hb
      obtain ⟨u, hu, h4⟩ := List.mem_flatMap.1 h2
      have h5 := h.own f (hM f (by simp)) e1 h1
      have h6 := h.own u (hM u (List.mem_cons_of_mem _ hu)) e2 h4
      rw [h3] at h6
      exact hn.1 ((h.same (hM f (by simp)) (hM u (List.mem_cons_of_mem _ hu)) h5 h6) ▸ hu)
  refine key D.L (fun u hu => hu) ?_
  exact h.ord_perm.nodup_iff.1 (by
    have h1 := h.ord_perm
    unfold ordU List.Nodup
    rw [List.pairwise_filterMap]
    refine List.Pairwise.imp ?_ List.nodup_range
    intro i j hij u hu v hv e
    subst e
    have k1 : u.q = i := by simpa using List.find?_some hu
    have k2 : u.q = j := by simpa using List.find?_some hv
    exact hij (k1.symm.trans k2))
theorem Dic.nod {w : World} {B d x g : Nat} {sh : List Pt} {es : List En} (h : Dic w B d x g sh es) : (keysOf es).Nodup := by
  obtain ⟨D, h1, h2, h3, h4⟩ := h
  exact (h4.map (·.1)).nodup_iff.1 h1.nodk
theorem Dic.le {w : World} {B d x g : Nat} {sh : List Pt} {es : List En} (h : Dic w B d x g sh es) : es.length ≤ 1000000 := by
  obtain ⟨D, h1, h2, h3, h4⟩ := h
  rw [← h4.length_eq]
  exact h1.le

theorem DNew (x : Nat) (w : World) (hx : x < 18446744073709551616) : Calls Tryz.prog 74 #[.int .u64 x] w fun e w' => Below w.heap.size w w' ∧ ∃ d, e = .returned (ptr d) ∧ Dic w' w.heap.size d x 0 [(0, 0)] [] := by
  refine (New_dict x w hx).mono ?_
  rintro e w' ⟨hb, d, D, rfl, h1, h2, h3, h4⟩
  exact ⟨hb, d, rfl, D, h1, h2, h3, by rw [h4]⟩
theorem DPut_new (B d x g : Nat) (sh : List Pt) (es : List En) (k : ByteArray) (v : Unit) (w : World) (hD : Dic w B d x g sh es) (hks : k.size ≤ maxLen) (hk : k ∉ keysOf es) (hle : es.length < 1000000) :
    Calls Tryz.prog 35 #[ptr d, .string k, .agg #[]] w fun e w' => e = .returned (.int .i64 0) ∧ Below B w w' ∧ Mv dtag w w' ∧ Dic w' B d x (grow x (keysOf es) (hsh x k) 17 g sh).1 (grow x (keysOf es) (hsh x k) 17 g sh).2 (es ++ [(k, v)]) := by
  obtain ⟨D, h1, rfl, rfl, h4⟩ := hD
  refine (PutD_new B d x D k v w h1 hks (fun hm => hk ((h4.map (·.1)).mem_iff.1 hm)) (by rw [h4.length_eq]; exact hle)).mono ?_
  rintro e w' ⟨rfl, D', hT, hg, hp⟩
  rw [grow_perm (h4.map (·.1))] at hg
  refine ⟨rfl, hT.below h1, hT.mv h1, D', hT.dct, ?_, ?_, hp.trans (h4.append_right _)⟩
  · rw [← hg]
  · rw [← hg]
theorem DPut_old (B d x g : Nat) (sh : List Pt) (a c : List En) (k : ByteArray) (u v : Unit) (w : World) (hD : Dic w B d x g sh (a ++ (k, u) :: c)) :
    Calls Tryz.prog 35 #[ptr d, .string k, .agg #[]] w fun e w' => e = .returned (.int .i64 0) ∧ Below B w w' ∧ Mv dtag w w' ∧ Dic w' B d x g sh (a ++ (k, v) :: c) := by
  obtain ⟨D, h1, rfl, rfl, h4⟩ := hD
  refine (PutD_old B d x D k u v w h1 (h4.mem_iff.2 (by simp))).mono ?_
  rintro e w' ⟨rfl, D', hT, hg, hsh, A, C, e1, e2⟩
  refine ⟨rfl, hT.below h1, hT.mv h1, D', hT.dct, hg, hsh, ?_⟩
  rw [e1] at h4
  rw [e2]
  have h5 : (A ++ C).Perm (a ++ c) := List.Perm.cons_inv (List.perm_middle.symm.trans (h4.trans List.perm_middle))
  exact List.perm_middle.trans ((h5.cons _).trans List.perm_middle.symm)
theorem DGet_some (B d x g : Nat) (sh : List Pt) (es : List En) (k : ByteArray) (v : Unit) (w : World) (hD : Dic w B d x g sh es) (hks : k.size ≤ maxLen) (hk : (k, v) ∈ es) :
    Calls Tryz.prog 52 #[ptr d, .string k] w fun e w' => e = .returned (.tuple #[.agg #[], .bool true]) ∧ Below w.heap.size w w' := by
  obtain ⟨D, h1, rfl, rfl, h4⟩ := hD
  exact Get_dsome B d x D k v w h1 hks (h4.mem_iff.2 hk)
theorem DGet_none (B d x g : Nat) (sh : List Pt) (es : List En) (k : ByteArray) (w : World) (hD : Dic w B d x g sh es) (hks : k.size ≤ maxLen) (hk : k ∉ keysOf es) :
    Calls Tryz.prog 52 #[ptr d, .string k] w fun e w' => e = .returned (.tuple #[.agg #[], .bool false]) ∧ Below w.heap.size w w' := by
  obtain ⟨D, h1, rfl, rfl, h4⟩ := hD
  exact Get_dnone B d x D k w h1 hks (fun hm => hk ((h4.map (·.1)).mem_iff.1 hm))
theorem DDelete_no (B d x g : Nat) (sh : List Pt) (es : List En) (k : ByteArray) (w : World) (hD : Dic w B d x g sh es) (hks : k.size ≤ maxLen) (hk : k ∉ keysOf es) :
    Calls Tryz.prog 47 #[ptr d, .string k] w fun e w' => e = .returned (.bool false) ∧ Below w.heap.size w w' := by
  obtain ⟨D, h1, rfl, rfl, h4⟩ := hD
  exact DeleteD_no B d x D k w h1 hks (fun hm => hk ((h4.map (·.1)).mem_iff.1 hm))
theorem DDelete_yes (B d x g : Nat) (sh : List Pt) (a c : List En) (k : ByteArray) (u : Unit) (w : World) (hD : Dic w B d x g sh (a ++ (k, u) :: c)) :
    Calls Tryz.prog 47 #[ptr d, .string k] w fun e w' => e = .returned (.bool true) ∧ Below B w w' ∧ Mv dtag w w' ∧ Dic w' B d x g sh (a ++ c) := by
  obtain ⟨D, h1, rfl, rfl, h4⟩ := hD
  refine (DeleteD_yes B d x D k w h1 ((h4.map (·.1)).mem_iff.2 (by simp))).mono ?_
  rintro e w' ⟨rfl, D', hT, hg, hsh, u', hp⟩
  refine ⟨rfl, hT.below h1, hT.mv h1, D', hT.dct, hg, hsh, ?_⟩
  have hu : u' = u := val_one h1.nodk (k := k) (hp.mem_iff.2 (by simp)) (h4.mem_iff.2 (by simp))
  subst hu
  exact List.Perm.cons_inv (hp.symm.trans (h4.trans List.perm_middle))
theorem DLen (B d x g : Nat) (sh : List Pt) (es : List En) (w : World) (hD : Dic w B d x g sh es) : Calls Tryz.prog 36 #[ptr d] w fun e w' => e = .returned (.int .i64 (es.length : Nat)) ∧ w' = w := by
  obtain ⟨D, h1, rfl, rfl, h4⟩ := hD
  rw [← h4.length_eq]
  exact Len_dict B d x D w h1
theorem DDepth (B d x g : Nat) (sh : List Pt) (es : List En) (w : World) (hD : Dic w B d x g sh es) : Calls Tryz.prog 80 #[ptr d] w fun e w' => e = .returned (.int .i64 (g : Nat)) ∧ w' = w := by
  obtain ⟨D, h1, rfl, rfl, h4⟩ := hD
  exact Depth_any B d x D w h1
theorem DKeys (B d x g : Nat) (sh : List Pt) (es : List En) (w : World) (hD : Dic w B d x g sh es) : Calls Tryz.prog 44 #[ptr d] w fun e w' => Below w.heap.size w w' ∧ ∃ a n c ks, e = .returned (.slice a n c) ∧ OwnS w' w.heap.size a n c ks ∧ ks.Perm (keysOf es) := by
  obtain ⟨D, h1, rfl, rfl, h4⟩ := hD
  refine (Keys_dict B d x D w h1).mono ?_
  rintro e w' ⟨hb, a, n, c, rfl, hO⟩
  exact ⟨hb, a, n, c, _, rfl, hO, ((h1.ord_perm.flatMap_right Lf.es).trans h4).map (·.1)⟩
theorem bkt_perm {x g : Nat} {ks ks' : List ByteArray} (h : ks.Perm ks') (c : Nat) : (bkt x g ks c).Perm (bkt x g ks' c) := h.filter _
theorem DBucket (B d x g : Nat) (sh : List Pt) (es : List En) (c : Nat) (w : World) (hD : Dic w B d x g sh es) (hc : c < 18446744073709551616) :
    Calls Tryz.prog 96 #[ptr d, .int .u64 c] w fun e w' => Below w.heap.size w w' ∧ ∃ a n cp ks, e = .returned (.slice a n cp) ∧ OwnS w' w.heap.size a n cp ks ∧ ks.Perm (bkt x g (keysOf es) c) := by
  obtain ⟨D, h1, rfl, rfl, h4⟩ := hD
  refine (Bucket_dict B d x D c w h1 hc).mono ?_
  rintro e w' ⟨hb, a, n, cp, rfl, hO⟩
  exact ⟨hb, a, n, cp, _, rfl, hO, bkt_perm (h4.map (·.1)) c⟩
theorem scanP_perm {x g : Nat} {ks ks' : List ByteArray} (h : ks.Perm ks') (cnt : Nat) : ∀ n acc acc' c, acc.Perm acc' → (scanP x g ks cnt n acc c).1.Perm (scanP x g ks' cnt n acc' c).1 ∧ (scanP x g ks cnt n acc c).2 = (scanP x g ks' cnt n acc' c).2
  | 0, acc, acc', c, ha => ⟨ha, rfl⟩
  | n + 1, acc, acc', c, ha => by
    have h1 : (acc ++ bkt x g ks c).Perm (acc' ++ bkt x g ks' c) := ha.append (bkt_perm h c)
    rw [scanP, scanP, h1.length_eq]
    split
    · exact ⟨h1, rfl⟩
    · exact scanP_perm h cnt n _ _ _ h1
theorem DScan (B d x g : Nat) (sh : List Pt) (es : List En) (c : Nat) (count : Int) (w : World) (hD : Dic w B d x g sh es) (hc : c < 18446744073709551616) :
    Calls Tryz.prog 76 #[ptr d, .int .u64 c, .int .i64 count] w fun e w' => Below w.heap.size w w' ∧ ∃ a n cp ks, e = .returned (.tuple #[.slice a n cp, .int .u64 ((scanP x g (keysOf es) (cntC count) (10 * cntC count) [] c).2 : Nat)]) ∧ OwnS w' w.heap.size a n cp ks ∧ ks.Perm (scanP x g (keysOf es) (cntC count) (10 * cntC count) [] c).1 := by
  obtain ⟨D, h1, rfl, rfl, h4⟩ := hD
  have hp := scanP_perm (x := x) (g := D.g) (h4.map (·.1)) (cntC count) (10 * cntC count) [] [] c (List.Perm.refl _)
  refine (Scan_dict B d x D c count w h1 hc).mono ?_
  rintro e w' ⟨hb, a, n, cp, rfl, hO⟩
  exact ⟨hb, a, n, cp, _, by rw [hp.2], hO, hp.1⟩
end Go.Proofs.YtkohjejfkbaffaaGreat.Dk

namespace Go.Proofs.YtkohjejfkbaffaaGreat.Dk
open Go.RowKit Go.PlainAid

theorem grow_first (x h : Nat) : grow x [] h 17 0 [(0, 0)] = (0, [(0, 0)]) :=
  grow_no (a := []) (c := []) (l := 0) (q := 0) (isIn_iff.2 (by simp [Nat.mod_one])) (by simp) (by simp [cntIn])
theorem bkt_zero (x : Nat) (ks : List ByteArray) (c : Nat) : bkt x 0 ks c = ks := by
  unfold bkt
  rw [List.filter_eq_self]
  intro k _
  simp [Nat.mod_one]
theorem scan_zero (x : Nat) (ks : List ByteArray) (cnt n c : Nat) : scanP x 0 ks cnt (n + 1) [] c = (ks, 0) := by
  rw [scanP]
  have h : nxt 0 c = 0 := rfl
  rw [if_pos (.inl h), bkt_zero, h, List.nil_append]
/-- A part that is not as deep as can be has no more keys than a table has room for. -/
theorem Dic.room {w : World} {B d x g : Nat} {sh : List Pt} {es : List En} (h : Dic w B d x g sh es) {s : Pt} (hs : s ∈ sh) (hl : s.1 < 16) : cntIn x (keysOf es) s ≤ 112 := by
  obtain ⟨D, h1, rfl, rfl, h4⟩ := h
  obtain ⟨f, hf, rfl⟩ := List.mem_map.1 hs
  obtain ⟨La, Lc, e⟩ := List.append_of_mem hf
  rw [← cntIn_perm (h4.map (·.1)), h1.cnt_of e]
  obtain ⟨t, ht⟩ := List.length_eq_one_iff.1 (h1.one f hf hl)
  have hT := (h1.leaf f hf).tab t (by rw [ht]; simp)
  have e2 : f.es = ents t.z := by unfold Lf.es; rw [ht, tsEs_one]; rfl
  rw [e2]
  have := hT.inv.room
  have := hT.inv.grp.le
  omega
/-- Where there is room, nothing is split. -/
theorem grow_room {g x h n : Nat} {sh : List Pt} {ks : List ByteArray} (hS : Shp g sh) (hr : ∀ s ∈ sh, isIn s h = true → s.1 < 16 → cntIn x ks s < 112) : grow x ks h n g sh = (g, sh) := by
  obtain ⟨a, ⟨l, q⟩, c, rfl, h1, h2, h3⟩ := hS.parts h
  exact grow_no h1 h2 (fun hh => by have := hr (l, q) (by simp) h1 hh.1; have := hh.2; omega)
theorem cntIn_append (x : Nat) (a b : List ByteArray) (s : Pt) : cntIn x (a ++ b) s = cntIn x a s + cntIn x b s := by unfold cntIn; rw [List.filter_append, List.length_append]

abbrev aKey : ByteArray := ⟨#[97]⟩
end Go.Proofs.YtkohjejfkbaffaaGreat.Dk

namespace Go.Proofs.YtkohjejfkbaffaaGreat.Dk
open Go.RowKit Go.PlainAid

/-- Is a key there? -/
def hasK (es : List En) (k : ByteArray) : Bool := es.any fun e => decide (e.1 = k)
theorem hasK_iff {es : List En} {k : ByteArray} : hasK es k = true ↔ k ∈ keysOf es := by
  unfold hasK
  rw [List.any_eq_true]
  constructor
  · rintro ⟨e, he, h⟩
    exact List.mem_map.2 ⟨e, he, of_decide_eq_true h⟩
  · intro h
    obtain ⟨e, he, h1⟩ := List.mem_map.1 h
    exact ⟨e, he, decide_eq_true h1⟩
theorem hasK_no {es : List En} {k : ByteArray} (h : k ∉ keysOf es) : hasK es k = false := by
  cases e : hasK es k with
  | false => rfl
  | true => exact absurd (hasK_iff.1 e) h
theorem hasK_perm {es fs : List En} (h : es.Perm fs) (k : ByteArray) : hasK es k = hasK fs k := by
  cases e : hasK fs k with
  | true => exact hasK_iff.2 ((h.map (·.1)).mem_iff.2 (hasK_iff.1 e))
  | false => exact hasK_no (fun h2 => by have := hasK_iff.2 ((h.map (·.1)).mem_iff.1 h2); rw [e] at this; cases this)
/-- What is there behind Put; behind Delete; what Get tells. -/
def putE (es : List En) (k : ByteArray) (v : Unit) : List En := if hasK es k = true then es.map (fun e => if e.1 = k then (k, v) else e) else es ++ [(k, v)]
def delE (es : List En) (k : ByteArray) : List En := es.filter fun e => decide (e.1 ≠ k)
theorem putE_perm {es fs : List En} (h : es.Perm fs) (k : ByteArray) (v : Unit) : (putE es k v).Perm (putE fs k v) := by
  unfold putE
  rw [hasK_perm h]
  split
  · exact h.map _
  · exact h.append_right _
theorem delE_perm {es fs : List En} (h : es.Perm fs) (k : ByteArray) : (delE es k).Perm (delE fs k) := h.filter _
theorem putE_len (es : List En) (k : ByteArray) (v : Unit) : (putE es k v).length ≤ es.length + 1 := by
  unfold putE
  split
  · rw [List.length_map]; omega
  · rw [List.length_append]; simp
theorem delE_len (es : List En) (k : ByteArray) : (delE es k).length ≤ es.length := List.length_filter_le _ _
theorem not_of_nodup {a c : List En} {k : ByteArray} {u : Unit} (hn : (keysOf (a ++ (k, u) :: c)).Nodup) : k ∉ keysOf a ∧ k ∉ keysOf c := by
  rw [keysOf_append] at hn
  replace hn : (keysOf a ++ k :: keysOf c).Nodup := hn
  rw [List.nodup_append, List.nodup_cons] at hn
  exact ⟨fun h => hn.2.2 k h k (by simp) rfl, hn.2.1.1⟩
theorem map_same {a : List En} {k : ByteArray} {v : Unit} (h : k ∉ keysOf a) : a.map (fun e => if e.1 = k then (k, v) else e) = a := by
  conv => rhs; rw [← List.map_id a]
  refine List.map_congr_left fun e he => ?_
  rw [if_neg (fun e2 => h (List.mem_map.2 ⟨e, he, e2⟩))]
  rfl
theorem filter_same {a : List En} {k : ByteArray} (h : k ∉ keysOf a) : delE a k = a := by
  unfold delE
  rw [List.filter_eq_self]
  intro e he
  exact decide_eq_true (fun e2 => h (List.mem_map.2 ⟨e, he, e2⟩))
theorem putE_old {a c : List En} {k : ByteArray} {u v : Unit} (hn : (keysOf (a ++ (k, u) :: c)).Nodup) : putE (a ++ (k, u) :: c) k v = a ++ (k, v) :: c := by
  obtain ⟨h1, h2⟩ := not_of_nodup hn
  unfold putE
  rw [if_pos (hasK_iff.2 (by simp [keysOf])), List.map_append, List.map_cons, map_same h1, map_same h2, if_pos rfl]
theorem delE_old {a c : List En} {k : ByteArray} {u : Unit} (hn : (keysOf (a ++ (k, u) :: c)).Nodup) : delE (a ++ (k, u) :: c) k = a ++ c := by
  obtain ⟨h1, h2⟩ := not_of_nodup hn
  have e1 := filter_same h1
  have e2 := filter_same h2
  unfold delE at e1 e2 ⊢
  rw [List.filter_append, List.filter_cons_of_neg (by simp), e1, e2]
theorem key_split {es : List En} {k : ByteArray} (h : k ∈ keysOf es) : ∃ a u c, es = a ++ (k, u) :: c := by
  obtain ⟨⟨k', u⟩, he, rfl⟩ := List.mem_map.1 h
  obtain ⟨a, c, e⟩ := List.append_of_mem he
  exact ⟨a, u, c, e⟩

theorem PutD (B d x : Nat) (D : Dg) (k : ByteArray) (v : Unit) (w : World) (hD : Dct w B d x D) (hks : k.size ≤ maxLen) (hle : D.es.length < 1000000) :
    Calls Tryz.prog 35 #[ptr d, .string k, .agg #[]] w fun e w' => e = .returned (.int .i64 0) ∧ ∃ D', Turn w w' B d x D D' ∧ D'.es.Perm (putE D.es k v) := by
  by_cases h : k ∈ keysOf D.es
  · obtain ⟨a, u, c, e⟩ := key_split h
    refine (PutD_old B d x D k u v w hD (by rw [e]; simp)).mono ?_
    rintro en w' ⟨rfl, D', hT, -, -, A, C, e1, e2⟩
    refine ⟨rfl, D', hT, ?_⟩
    have hn := hD.nodk
    rw [e1] at hn ⊢
    rw [putE_old hn, e2]
  · refine (PutD_new B d x D k v w hD hks h hle).mono ?_
    rintro en w' ⟨rfl, D', hT, -, hp⟩
    refine ⟨rfl, D', hT, ?_⟩
    unfold putE
    rw [if_neg (by rw [hasK_no h]; decide)]
    exact hp
theorem DelD (B d x : Nat) (D : Dg) (k : ByteArray) (w : World) (hD : Dct w B d x D) (hks : k.size ≤ maxLen) :
    Calls Tryz.prog 47 #[ptr d, .string k] w fun e w' => e = .returned (.bool (hasK D.es k)) ∧ ∃ D', Turn w w' B d x D D' ∧ D'.es.Perm (delE D.es k) := by
  by_cases h : k ∈ keysOf D.es
  · rw [hasK_iff.2 h]
    refine (DeleteD_yes B d x D k w hD h).mono ?_
    rintro en w' ⟨rfl, D', hT, -, -, u, hp⟩
    refine ⟨rfl, D', hT, ?_⟩
    have h1 := delE_perm hp k
    have hn : (keysOf ([] ++ (k, u) :: D'.es)).Nodup := (hp.map (·.1)).nodup_iff.1 hD.nodk
    have h2 := delE_old hn
    rw [List.nil_append] at h2
    rw [h2] at h1
    exact h1.symm
  · rw [hasK_no h]
    refine (DeleteD_no B d x D k w hD hks h).mono ?_
    rintro en w' ⟨rfl, hb⟩
    exact ⟨rfl, D, Turn.refl hD hb, by rw [filter_same h]⟩
theorem GetD (B d x : Nat) (D : Dg) (k : ByteArray) (w : World) (hD : Dct w B d x D) (hks : k.size ≤ maxLen) :
    Calls Tryz.prog 52 #[ptr d, .string k] w fun e w' => e = .returned (.tuple #[.agg #[], .bool (hasK D.es k)]) ∧ Below w.heap.size w w' := by
  by_cases h : k ∈ keysOf D.es
  · obtain ⟨a, u, c, e⟩ := key_split h
    have hm : (k, u) ∈ D.es := by rw [e]; simp
    rw [hasK_iff.2 h]
    exact Get_dsome B d x D k u w hD hks hm
  · rw [hasK_no h]
    exact Get_dnone B d x D k w hD hks h
end Go.Proofs.YtkohjejfkbaffaaGreat.Dk

namespace Go.Proofs.YtkohjejfkbaffaaGreat
open Go.RowKit Go.PlainAid
open Dk (En Stay hasK putE delE keysOf Dct Dg dtag)

/-- No text of these is longer. -/
def Szs (T : Nat) (l : List ByteArray) : Prop := ∀ s ∈ l, s.size ≤ T
/-- Is a member there? -/
def hasM (l : List ByteArray) (k : ByteArray) : Bool := l.any fun s => decide (s = k)
theorem hasM_yes {l : List ByteArray} {k : ByteArray} (h : k ∈ l) : hasM l k = true := List.any_eq_true.2 ⟨k, h, decide_eq_true rfl⟩
theorem hasM_no {l : List ByteArray} {k : ByteArray} (h : k ∉ l) : hasM l k = false := by
  cases e : hasM l k with
  | false => rfl
  | true =>
    obtain ⟨s, hs, h1⟩ := List.any_eq_true.1 e
    exact absurd (of_decide_eq_true h1 ▸ hs) h
theorem hasM_iff {l : List ByteArray} {k : ByteArray} : hasM l k = true ↔ k ∈ l := by
  constructor
  · intro e
    obtain ⟨s, hs, h1⟩ := List.any_eq_true.1 e
    exact of_decide_eq_true h1 ▸ hs
  · exact hasM_yes
theorem hasM_perm {l r : List ByteArray} (h : l.Perm r) (k : ByteArray) : hasM l k = hasM r k := by
  by_cases hk : k ∈ l
  · rw [hasM_yes hk, hasM_yes (h.mem_iff.1 hk)]
  · rw [hasM_no hk, hasM_no (fun h2 => hk (h.mem_iff.2 h2))]
/-- A member more, a member less. -/
def addM (l : List ByteArray) (k : ByteArray) : List ByteArray := if hasM l k = true then l else l ++ [k]
theorem addM_yes {l : List ByteArray} {k : ByteArray} (h : k ∈ l) : addM l k = l := by unfold addM; rw [if_pos (hasM_yes h)]
theorem addM_no {l : List ByteArray} {k : ByteArray} (h : k ∉ l) : addM l k = l ++ [k] := by unfold addM; rw [if_neg (by rw [hasM_no h]; decide)]
def remM (l : List ByteArray) (k : ByteArray) : List ByteArray := l.filter fun s => decide (s ≠ k)
theorem Szs.fit {T : Nat} {l : List ByteArray} (h : Szs T l) (hT : T ≤ 4096) : Fit l := fun s hs => Nat.le_trans (h s hs) hT
theorem Szs.mono {T U : Nat} {l : List ByteArray} (h : Szs T l) (hT : T ≤ U) : Szs U l := fun s hs => Nat.le_trans (h s hs) hT
theorem Szs.perm {T : Nat} {l r : List ByteArray} (h : Szs T l) (hp : l.Perm r) : Szs T r := fun s hs => h s (hp.mem_iff.2 hs)
theorem Szs.add {T : Nat} {l : List ByteArray} (h : Szs T l) {k : ByteArray} (hk : k.size ≤ T) : Szs T (addM l k) := by
  intro s hs
  unfold addM at hs
  split at hs
  · exact h s hs
  · rcases List.mem_append.1 hs with h1 | h1
    · exact h s h1
    · rw [List.mem_singleton.1 h1]; exact hk
theorem Szs.rem {T : Nat} {l : List ByteArray} (h : Szs T l) (k : ByteArray) : Szs T (remM l k) := fun s hs => h s (List.mem_filter.1 hs).1
theorem addM_perm {l r : List ByteArray} (h : l.Perm r) (k : ByteArray) : (addM l k).Perm (addM r k) := by
  by_cases hk : k ∈ l
  · rw [addM_yes hk, addM_yes (h.mem_iff.1 hk)]; exact h
  · rw [addM_no hk, addM_no (fun h2 => hk (h.mem_iff.2 h2))]; exact h.append_right _
theorem remM_perm {l r : List ByteArray} (h : l.Perm r) (k : ByteArray) : (remM l k).Perm (remM r k) := h.filter _
theorem addM_len (l : List ByteArray) (k : ByteArray) : (addM l k).length ≤ l.length + 1 := by
  unfold addM
  split
  · omega
  · rw [List.length_append]; simp
theorem remM_len (l : List ByteArray) (k : ByteArray) : (remM l k).length ≤ l.length := List.length_filter_le _ _
theorem nodup_add {l : List ByteArray} (h : l.Nodup) (k : ByteArray) : (addM l k).Nodup := by
  by_cases hk : k ∈ l
  · rw [addM_yes hk]; exact h
  · rw [addM_no hk, List.nodup_append]
    refine ⟨h, by simp, ?_⟩
    intro s hs t ht e
    rw [List.mem_singleton.1 ht] at e
    exact hk (e ▸ hs)
theorem nodup_rem {l : List ByteArray} (h : l.Nodup) (k : ByteArray) : (remM l k).Nodup := h.filter _
theorem remM_no {l : List ByteArray} {k : ByteArray} (h : k ∉ l) : remM l k = l := by
  unfold remM
  rw [List.filter_eq_self]
  intro s hs
  exact decide_eq_true (fun e => h (e ▸ hs))
theorem remM_mid {l r : List ByteArray} {k : ByteArray} (h : (l ++ k :: r).Nodup) : remM (l ++ k :: r) k = l ++ r := by
  rw [List.nodup_append, List.nodup_cons] at h
  have h1 : k ∉ l := fun hk => h.2.2 k hk k (by simp) rfl
  have e1 := remM_no h1
  have e2 := remM_no h.2.1.1
  unfold remM at e1 e2 ⊢
  rw [List.filter_append, List.filter_cons_of_neg (by simp), e1, e2]
theorem mem_addM {l : List ByteArray} {k s : ByteArray} : s ∈ addM l k ↔ s ∈ l ∨ s = k := by
  by_cases hk : k ∈ l
  · rw [addM_yes hk]
    exact ⟨.inl, fun h => h.elim id (fun e => e ▸ hk)⟩
  · rw [addM_no hk, List.mem_append, List.mem_singleton]
theorem mem_remM {l : List ByteArray} {k s : ByteArray} : s ∈ remM l k ↔ s ∈ l ∧ s ≠ k := by
  unfold remM
  rw [List.mem_filter, decide_eq_true_iff]
/-- The keys of entries. -/
theorem keys_put (es : List En) (k : ByteArray) (v : Unit) : keysOf (putE es k v) = addM (keysOf es) k := by
  by_cases hk : k ∈ keysOf es
  · rw [addM_yes hk]
    unfold putE
    rw [if_pos (Dk.hasK_iff.2 hk)]
    unfold keysOf
    rw [List.map_map]
    refine List.map_congr_left fun e _ => ?_
    show (if e.1 = k then (k, v) else e).1 = e.1
    split
    · rename_i h; exact h.symm
    · rfl
  · rw [addM_no hk]
    unfold putE
    rw [if_neg (by rw [Dk.hasK_no hk]; decide)]
    unfold keysOf
    rw [List.map_append]; rfl
theorem keys_del (es : List En) (k : ByteArray) : keysOf (delE es k) = remM (keysOf es) k := by
  unfold delE remM keysOf
  rw [List.filter_map]; rfl
theorem hasK_mem (es : List En) (k : ByteArray) : hasK es k = hasM (keysOf es) k := by
  by_cases hk : k ∈ keysOf es
  · rw [Dk.hasK_iff.2 hk, hasM_yes hk]
  · rw [Dk.hasK_no hk, hasM_no hk]

theorem enc_len62 {l : List UInt8} (h : l.length ≤ 60) : (enc l).length ≤ 62 := by
  have hb : (body l).length ≤ 61 := by
    rcases body_ways l with ⟨n, h0, h1, e⟩ | ⟨n, h0, h1, e⟩ | ⟨h0, h1, e⟩ | ⟨h0, h1, e⟩ <;> rw [e]
    · simp
    · rw [List.length_cons, be_len]; omega
    · simp; omega
    · omega
  have h2 := back_len (body l).length
  unfold enc
  rw [List.length_append]
  split at h2 <;> omega
theorem pack_len62 (ls : List ByteArray) (h : ∀ s ∈ ls, s.size ≤ 60) : (pack ls).length ≤ 62 * ls.length := by
  induction ls with
  | nil => simp [pack]
  | cons s l ih =>
    have h1 := enc_len62 (l := lst s) (by rw [len_lst]; exact h s (by simp))
    have h2 := ih (fun t ht => h t (List.mem_cons_of_mem _ ht))
    rw [pack, List.length_append, List.length_cons]
    omega

/-- Where a member is found. -/
theorem fnd1_no {l : List ByteArray} {k : ByteArray} (h : k ∉ l) : ∀ (f i : Nat), fnd l k 1 f i = -1
  | 0, _ => rfl
  | f + 1, i => by
    rw [fnd]
    split
    · rename_i hi
      have e1 : txt l i = l[i] := by unfold txt; rw [List.getD_eq_getElem?_getD, List.getElem?_eq_getElem hi]; rfl
      rw [e1, if_neg (fun e => h (by rw [← e]; exact List.getElem_mem hi))]
      exact fnd1_no h f (i + 1)
    · rfl
theorem fnd1_yes {l a c : List ByteArray} {k : ByteArray} (e : l = a ++ k :: c) (hk : k ∉ a) : ∀ (f i : Nat), i ≤ a.length → a.length < f + i → fnd l k 1 f i = ((a.length : Nat) : Int)
  | 0, i, h1, h2 => by omega
  | f + 1, i, h1, h2 => by
    have hl : l.length = a.length + (c.length + 1) := by rw [e, List.length_append, List.length_cons]
    have hi' : i < l.length := by omega
    have e1 : txt l i = l[i] := by unfold txt; rw [List.getD_eq_getElem?_getD, List.getElem?_eq_getElem hi']; rfl
    rw [fnd, if_pos hi', e1]
    rcases Nat.lt_or_ge i a.length with h3 | h3
    · have e2 : l[i] = a[i] := by
        have : l[i]? = some a[i] := by rw [e, List.getElem?_append_left h3, List.getElem?_eq_getElem h3]
        rw [List.getElem?_eq_getElem hi'] at this
        exact Option.some.inj this
      rw [e2, if_neg (fun e => hk (by rw [← e]; exact List.getElem_mem h3))]
      exact fnd1_yes e hk f (i + 1) (by omega) (by omega)
    · have hia : i = a.length := by omega
      subst hia
      have e2 : l[a.length] = k := by
        have : l[a.length]? = some k := by rw [e, List.getElem?_append_right (Nat.le_refl _), Nat.sub_self]; rfl
        rw [List.getElem?_eq_getElem hi'] at this
        exact Option.some.inj this
      rw [e2, if_pos rfl]

/-- A set's own block. -/
structure Hb (w : World) (m x E T : Nat) (s l : Value) : Prop where
  blk : w.heap[m]? = some (.cells #[.int .u64 (x : Nat), .int .i64 (E : Nat), .int .i64 (T : Nat), s, l] 70 (0, 0))
theorem Hb.lt {w : World} {m x E T : Nat} {s l : Value} (h : Hb w m x E T s l) : m < w.heap.size := (Array.getElem?_eq_some_iff.1 h.blk).1
theorem Hb.kept {w wn : World} {m x E T : Nat} {s l : Value} (h : Hb w m x E T s l) (hb : wn.heap[m]? = w.heap[m]?) : Hb wn m x E T s l := ⟨by rw [hb]; exact h.blk⟩
theorem Hb.keep {w wn : World} {m x E T : Nat} {s l : Value} (h : Hb w m x E T s l) (hb : Below w.heap.size w wn) : Hb wn m x E T s l := h.kept (hb.block m h.lt)
theorem Hb.cx {w : World} {m x E T : Nat} {s l : Value} (h : Hb w m x E T s l) : w.cell? ⟨m, 0, none⟩ = some (.int .u64 (x : Nat)) := by simp [World.cell?, h.blk]
theorem Hb.cE {w : World} {m x E T : Nat} {s l : Value} (h : Hb w m x E T s l) : w.cell? ⟨m, 1, none⟩ = some (.int .i64 (E : Nat)) := by simp [World.cell?, h.blk]
theorem Hb.cT {w : World} {m x E T : Nat} {s l : Value} (h : Hb w m x E T s l) : w.cell? ⟨m, 2, none⟩ = some (.int .i64 (T : Nat)) := by simp [World.cell?, h.blk]
theorem Hb.cs {w : World} {m x E T : Nat} {s l : Value} (h : Hb w m x E T s l) : w.cell? ⟨m, 3, none⟩ = some s := by simp [World.cell?, h.blk]
theorem Hb.cl {w : World} {m x E T : Nat} {s l : Value} (h : Hb w m x E T s l) : w.cell? ⟨m, 4, none⟩ = some l := by simp [World.cell?, h.blk]
theorem Hb.fz {w : World} {m x E T : Nat} {s l : Value} (h : Hb w m x E T s l) (o : Nat) : w.frozen? ⟨m, o, none⟩ = false := by simp [World.frozen?, h.blk]
theorem Hb.setS {w : World} {m x E T : Nat} {s l : Value} (h : Hb w m x E T s l) (v : Value) : Hb (w.setCell ⟨m, 3, none⟩ v) m x E T v l := ⟨by rw [Dk.heap_set h.blk]; rfl⟩
theorem Hb.setL {w : World} {m x E T : Nat} {s l : Value} (h : Hb w m x E T s l) (v : Value) : Hb (w.setCell ⟨m, 4, none⟩ v) m x E T s v := ⟨by rw [Dk.heap_set h.blk]; rfl⟩

/-- The blocks of a pack. -/
def pfp (p : Nat) (a : Option Addr) : List Nat := p :: (a.map (·.block)).toList
/-- A packed set. -/
structure Small (w : World) (B m x E T p : Nat) (a : Option Addr) (n c : Nat) (l : List ByteArray) : Prop where
  blk : Hb w m x E T (ptr p) (.pointer none)
  pk : Pk w B p a n c l
  low : B ≤ m
  le : l.length ≤ E
  sz : Szs T l
  nod : l.Nodup
  hE : E ≤ 512
  hT : T ≤ 60
/-- One with a dict. -/
structure Large (w : World) (B m x E T d : Nat) (D : Dg) : Prop where
  blk : Hb w m x E T (.pointer none) (ptr d)
  dc : Dct w B d x D
  low : B ≤ m
  sz : Szs 4096 (keysOf D.es)
  hE : E ≤ 512
  hT : T ≤ 60
theorem Small.keep {w wn : World} {B m x E T p : Nat} {a : Option Addr} {n c : Nat} {l : List ByteArray} (h : Small w B m x E T p a n c l) (hb : Below w.heap.size w wn) : Small wn B m x E T p a n c l := ⟨h.blk.keep hb, h.pk.keep hb, h.low, h.le, h.sz, h.nod, h.hE, h.hT⟩
theorem Large.keep {w wn : World} {B m x E T d : Nat} {D : Dg} (h : Large w B m x E T d D) (hb : Below w.heap.size w wn) : Large wn B m x E T d D := ⟨h.blk.keep hb, h.dc.keep hb, h.low, h.sz, h.hE, h.hT⟩
theorem Small.fit {w : World} {B m x E T p : Nat} {a : Option Addr} {n c : Nat} {l : List ByteArray} (h : Small w B m x E T p a n c l) : Fit l := h.sz.fit (by have := h.hT; omega)
theorem Small.n {w : World} {B m x E T p : Nat} {a : Option Addr} {n c : Nat} {l : List ByteArray} (h : Small w B m x E T p a n c l) : n ≤ 62 * l.length := by
  have h1 := pack_len62 l (h.sz.mono h.hT)
  have := h.pk.len
  omega
theorem Small.max {w : World} {B m x E T p : Nat} {a : Option Addr} {n c : Nat} {l : List ByteArray} (h : Small w B m x E T p a n c l) : n ≤ 31744 := by
  have := h.n; have := h.le; have := h.hE; omega

theorem Packed_yes (m x E T : Nat) (s : Value) (w : World) (h : Hb w m x E T s (.pointer none)) : Calls Tryz.prog 11 #[ptr m] w fun e w' => e = .returned (.bool true) ∧ w' = w := by
  have hc := h.cl
  clear h
  go_enter Tryz.func11, Tryz.ntmps11
  go_wp2
  go_ret
  exact ⟨rfl, rfl⟩
theorem Packed_no (m x E T d : Nat) (s : Value) (w : World) (h : Hb w m x E T s (ptr d)) : Calls Tryz.prog 11 #[ptr m] w fun e w' => e = .returned (.bool false) ∧ w' = w := by
  have hc := h.cl
  clear h
  go_enter Tryz.func11, Tryz.ntmps11
  go_wp2
  go_ret
  exact ⟨rfl, rfl⟩
theorem Len_small (B m x E T p : Nat) (a : Option Addr) (n c : Nat) (l : List ByteArray) (w : World) (h : Small w B m x E T p a n c l) : Calls Tryz.prog 13 #[ptr m] w fun e w' => e = .returned (.int .i64 (l.length : Nat)) ∧ w' = w := by
  have hc := h.blk.cs
  have HP := Packed_yes m x E T _ w h.blk
  have HL := Len_any B p a n c l w h.pk
  generalize l.length = k at HL ⊢
  clear h
  go_enter Tryz.func13, Tryz.ntmps13
  go_wp2_with fail
  refine HP.mono ?_
  rintro e w1 ⟨rfl, rfl⟩
  go_wp2_with fail
  refine HL.mono ?_
  rintro e w1 ⟨rfl, rfl⟩
  go_wp2
  go_ret
  exact ⟨rfl, rfl⟩
theorem Len_large (B m x E T d : Nat) (D : Dg) (w : World) (h : Large w B m x E T d D) : Calls Tryz.prog 13 #[ptr m] w fun e w' => e = .returned (.int .i64 ((keysOf D.es).length : Nat)) ∧ w' = w := by
  have hc := h.blk.cl
  have HP := Packed_no m x E T d _ w h.blk
  have HL := Dk.Len_dict B d x D w h.dc
  rw [show (keysOf D.es).length = D.es.length by rw [keysOf, List.length_map]]
  generalize D.es.length = k at HL ⊢
  clear h
  go_enter Tryz.func13, Tryz.ntmps13
  go_wp2_with fail
  refine HP.mono ?_
  rintro e w1 ⟨rfl, rfl⟩
  go_wp2_with fail
  refine HL.mono ?_
  rintro e w1 ⟨rfl, rfl⟩
  go_wp2
  go_ret
  exact ⟨rfl, rfl⟩

theorem find_no (B m x E T p : Nat) (a : Option Addr) (n c : Nat) (l : List ByteArray) (k : ByteArray) (w : World) (h : Small w B m x E T p a n c l) (hk : k ∉ l) :
    Calls Tryz.prog 48 #[ptr m, .string k] w fun e w' => e = .returned (.int .i64 (-1)) ∧ Below w.heap.size w w' := by
  have hc := h.blk.cs
  have HF := Find_any B p a n c l k 0 1 w h.pk h.fit (by have := h.max; omega) (by decide) (by decide) (by decide)
  rw [fnd1_no hk] at HF
  clear h
  go_enter Tryz.func48, Tryz.ntmps48
  go_wp2_with fail
  refine HF.mono ?_
  rintro e w1 ⟨hb, rfl⟩
  have HB : Hid (Below w.heap.size w w1) := hb
  clear hb
  go_wp2
  go_ret
  exact ⟨rfl, HB.out⟩
theorem find_yes (B m x E T p : Nat) (a : Option Addr) (n c : Nat) (l b r : List ByteArray) (k : ByteArray) (w : World) (h : Small w B m x E T p a n c l) (he : l = b ++ k :: r) :
    Calls Tryz.prog 48 #[ptr m, .string k] w fun e w' => e = .returned (.int .i64 (b.length : Nat)) ∧ Below w.heap.size w w' := by
  have hc := h.blk.cs
  have HF := Find_any B p a n c l k 0 1 w h.pk h.fit (by have := h.max; omega) (by decide) (by decide) (by decide)
  have hn := h.nod
  rw [he, List.nodup_append] at hn
  have e1 := fnd1_yes he (fun hk => hn.2.2 k hk k (by simp) rfl) l.length 0 (Nat.zero_le _) (by rw [he, List.length_append, List.length_cons]; omega)
  rw [e1] at HF
  generalize b.length = q at HF ⊢
  clear h e1 hn
  go_enter Tryz.func48, Tryz.ntmps48
  go_wp2_with fail
  refine HF.mono ?_
  rintro e w1 ⟨hb, rfl⟩
  have HB : Hid (Below w.heap.size w w1) := hb
  clear hb
  go_wp2
  go_ret
  exact ⟨rfl, HB.out⟩
theorem Has_small (B m x E T p : Nat) (a : Option Addr) (n c : Nat) (l : List ByteArray) (k : ByteArray) (w : World) (h : Small w B m x E T p a n c l) :
    Calls Tryz.prog 27 #[ptr m, .string k] w fun e w' => e = .returned (.bool (hasM l k)) ∧ Below w.heap.size w w' := by
  have HP := Packed_yes m x E T _ w h.blk
  obtain ⟨z, t, HZ, hz, HF⟩ : ∃ (z : Int) (t : Bool), Hid (hasM l k = t) ∧ ((∃ q : Nat, z = q ∧ t = true) ∨ (z = -1 ∧ t = false)) ∧ Calls Tryz.prog 48 #[ptr m, .string k] w fun e w' => e = .returned (.int .i64 z) ∧ Below w.heap.size w w' := by
    by_cases hk : k ∈ l
    · obtain ⟨b, r, e⟩ := List.append_of_mem hk
      exact ⟨_, true, hasM_yes hk, .inl ⟨_, rfl, rfl⟩, find_yes B m x E T p a n c l b r k w h e⟩
    · exact ⟨-1, false, hasM_no hk, .inr ⟨rfl, rfl⟩, find_no B m x E T p a n c l k w h hk⟩
  rw [HZ.out]
  clear h
  rcases hz with ⟨q, rfl, rfl⟩ | ⟨rfl, rfl⟩
  all_goals
    go_enter Tryz.func27, Tryz.ntmps27
    go_wp2_with fail
    refine HP.mono ?_
    rintro e w1 ⟨rfl, rfl⟩
    go_wp2_with fail
    refine HF.mono ?_
    rintro e w2 ⟨rfl, hb⟩
    have HB : Hid (Below w1.heap.size w1 w2) := hb
    clear hb
    go_wp2
    go_ret
    exact ⟨rfl, HB.out⟩
theorem Has_large (B m x E T d : Nat) (D : Dg) (k : ByteArray) (w : World) (h : Large w B m x E T d D) (hk : k.size ≤ maxLen) :
    Calls Tryz.prog 27 #[ptr m, .string k] w fun e w' => e = .returned (.bool (hasM (keysOf D.es) k)) ∧ Below w.heap.size w w' := by
  have hc := h.blk.cl
  have HP := Packed_no m x E T d _ w h.blk
  have HG := Dk.GetD B d x D k w h.dc hk
  rw [hasK_mem] at HG
  generalize hasM (keysOf D.es) k = t at HG ⊢
  clear h
  go_enter Tryz.func27, Tryz.ntmps27
  go_wp2_with fail
  refine HP.mono ?_
  rintro e w1 ⟨rfl, rfl⟩
  go_wp2_with fail
  refine HG.mono ?_
  rintro e w2 ⟨rfl, hb⟩
  have HB : Hid (Below w1.heap.size w1 (w2.alloc (.cells #[] 73))) := hb.trans ((alloc_below w2 _).mono hb.size)
  clear hb
  go_wp2
  go_ret
  exact ⟨rfl, HB.out⟩
theorem All_small (B m x E T p : Nat) (a : Option Addr) (n c : Nat) (l : List ByteArray) (w : World) (h : Small w B m x E T p a n c l) :
    Calls Tryz.prog 21 #[ptr m] w fun e w' => Below w.heap.size w w' ∧ ∃ a n c, e = .returned (.slice a n c) ∧ OwnS w' w.heap.size a n c l := by
  have hc := h.blk.cs
  have HP := Packed_yes m x E T _ w h.blk
  have HA := All_any B p a n c l w h.pk h.fit (by have := h.max; omega)
  clear h
  go_enter Tryz.func21, Tryz.ntmps21
  go_wp2_with fail
  refine HP.mono ?_
  rintro e w0 ⟨rfl, rfl⟩
  go_wp2_with fail
  refine HA.mono ?_
  rintro e w1 ⟨hb, sa, sn, sc, rfl, hO⟩
  have HR : Hid (Below w0.heap.size w0 w1 ∧ OwnS w1 w0.heap.size sa sn sc l) := ⟨hb, hO⟩
  clear hb hO
  go_wp2
  go_ret
  exact ⟨HR.out.1, sa, sn, sc, rfl, HR.out.2⟩
theorem All_large (B m x E T d : Nat) (D : Dg) (w : World) (h : Large w B m x E T d D) :
    Calls Tryz.prog 21 #[ptr m] w fun e w' => Below w.heap.size w w' ∧ ∃ a n c l, e = .returned (.slice a n c) ∧ OwnS w' w.heap.size a n c l ∧ l.Perm (keysOf D.es) := by
  have hc := h.blk.cl
  have HP := Packed_no m x E T d _ w h.blk
  have HK := Dk.Keys_dict B d x D w h.dc
  have HPm : Hid ((keysOf (Dk.esL (Dk.ordU D.L (2 ^ D.g)))).Perm (keysOf D.es)) := by
    show List.Perm _ _
    exact (h.dc.ord_perm.flatMap_right Dk.Lf.es).map Prod.fst
  generalize keysOf (Dk.esL (Dk.ordU D.L (2 ^ D.g))) = ks at HK HPm
  clear h
  go_enter Tryz.func21, Tryz.ntmps21
  go_wp2_with fail
  refine HP.mono ?_
  rintro e w1 ⟨rfl, rfl⟩
  go_wp2_with fail
  refine HK.mono ?_
  rintro e w2 ⟨hb, a, n, c, rfl, hO⟩
  have HR : Hid (Below w1.heap.size w1 w2 ∧ OwnS w2 w1.heap.size a n c ks) := ⟨hb, hO⟩
  clear hb hO
  go_wp2
  go_ret
  exact ⟨HR.out.1, a, n, c, ks, rfl, HR.out.2, HPm.out⟩
end Go.Proofs.YtkohjejfkbaffaaGreat

namespace Go.Proofs.YtkohjejfkbaffaaGreat
open Go.RowKit Go.PlainAid
open Dk (En Stay hasK putE delE keysOf Dct Dg dtag Turn)

theorem getD_not {l : List ByteArray} {i : Nat} (hn : l.Nodup) (hi : i < l.length) : l.getD i ByteArray.empty ∉ l.take i := by
  rw [List.getD_eq_getElem?_getD, List.getElem?_eq_getElem hi]
  intro hm
  have h1 : l = l.take i ++ l[i] :: l.drop (i + 1) := by rw [← List.drop_eq_getElem_cons hi, List.take_append_drop]
  rw [h1, List.nodup_append] at hn
  exact hn.2.2 _ hm _ (List.mem_cons_self ..) rfl
theorem getD_in {l : List ByteArray} {i : Nat} (hi : i < l.length) : l.getD i ByteArray.empty ∈ l := by
  rw [List.getD_eq_getElem?_getD, List.getElem?_eq_getElem hi]
  exact List.getElem_mem hi

set_option maxRecDepth 100000 in
set_option maxHeartbeats 4000000 in
theorem dictOf_any (B x : Nat) (a : Option Addr) (n c : Nat) (l : List ByteArray) (w : World) (hx : x < 18446744073709551616) (hO : OwnS w B a n c l) (hs : Szs 4096 l) (hn : l.Nodup) (hl : n < 1000000) :
    Calls Tryz.prog 51 #[.int .u64 x, .slice a n c] w fun e w' => Below w.heap.size w w' ∧ ∃ d D, e = .returned (ptr d) ∧ Dct w' w.heap.size d x D ∧ (keysOf D.es).Perm l := by
  have HN := Dk.New_dict x w hx
  have HO : Hid (OwnS w B a n c l) := hO
  have HS : Hid (Szs 4096 l) := hs
  have HK : Hid (l.Nodup) := hn
  have HL : Hid (l.length = n) := hO.len
  clear hO hs hn
  go_enter Tryz.func51, Tryz.ntmps51
  go_wp2_with fail
  refine HN.mono ?_
  rintro e w1 ⟨hb, d, D0, rfl, h1, -, -, h4⟩
  have HD0 : Hid (Dct w1 w.heap.size d x D0) := h1
  have HE0 : Hid ((keysOf D0.es).Perm (l.take 0)) := by show List.Perm _ _; rw [h4, List.take_zero]; exact List.Perm.refl _
  have HB1 : Hid (Below w.heap.size w w1) := hb
  clear hb h1 h4 HN
  go_wp2
  go_loopg [7, 12] n (fun g pv iv wr => ∃ (i : Nat) (D : Dg), i + g = n ∧ iv = .int .i64 i ∧ Hid (Dct wr w.heap.size d x D) ∧ Hid ((keysOf D.es).Perm (l.take i)) ∧ Hid (Below w.heap.size w wr))
  case atStart => exact ⟨0, D0, by omega, rfl, HD0, HE0, HB1⟩
  case round =>
    obtain ⟨i, D, hi, rfl, HD, HE, HB⟩ := hrel
    by_cases h8 : (i : Int) < n
    · have hil : i < l.length := by have := HL.out; omega
      obtain ⟨b, off, rfl, hc1⟩ := (HO.out.keep HB.out).rd.cell i (by omega)
      have HT : Hid (l.take (i + 1) = l.take i ++ [l.getD i ByteArray.empty]) := take_snocB l i hil
      have HFR : Hid (l.getD i ByteArray.empty ∉ l.take i) := getD_not HK.out hil
      have HSZ : Hid ((l.getD i ByteArray.empty).size ≤ 4096) := HS.out _ (getD_in hil)
      generalize l.getD i ByteArray.empty = k at hc1 HT HFR HSZ
      have HP := Dk.PutD_new w.heap.size d x D k () wr HD.out (by have := HSZ.out; unfold maxLen; omega) (fun hm => HFR.out (HE.out.mem_iff.1 hm)) (by have := HE.out.length_eq; rw [keysOf, List.length_map, List.length_take] at this; omega)
      go_wp2_with fail
      refine HP.mono ?_
      rintro e w2 ⟨rfl, D', hT, -, hp⟩
      have HD2 : Hid (Dct w2 w.heap.size d x D') := hT.dct
      have HE2 : Hid ((keysOf D'.es).Perm (l.take (i + 1))) := by
        show List.Perm _ _
        rw [HT.out]
        have h5 : (keysOf D'.es).Perm (keysOf (D.es ++ [(k, ())])) := hp.map Prod.fst
        rw [Dk.keysOf_append] at h5
        exact h5.trans (HE.out.append_right _)
      have HB2 : Hid (Below w.heap.size w w2) := HB.out.trans (hT.below HD.out)
      clear hT hp
      go_wp2
      go_roundg (gk - 1)
      case measure => omega
      case rel => exact ⟨i + 1, D', by omega, by go_num, HD2, HE2, HB2⟩
    · have hnn : i = n := by omega
      subst hnn
      have HT : Hid (l.take i = l) := List.take_of_length_le (by have := HL.out; omega)
      go_wp2
      go_ret
      exact ⟨HB.out, d, rfl, D, HD.out, by rw [HT.out] at HE; exact HE.out⟩

/-- A limit, as it counts. -/
def lim (z : Int) (hi : Nat) : Nat := (min (max z 0) hi).toNat
theorem lim_le (z : Int) (hi : Nat) : lim z hi ≤ hi := by unfold lim; omega
set_option maxRecDepth 100000 in
set_option maxHeartbeats 4000000 in
theorem New_hm (x : Nat) (e t : Int) (w : World) :
    Calls Tryz.prog 10 #[.int .u64 x, .agg #[.int .i64 e, .int .i64 t]] w fun en w' => Below w.heap.size w w' ∧ ∃ m p a n c, en = .returned (ptr m) ∧ Small w' w.heap.size m x (lim e 512) (lim t 60) p a n c [] := by
  obtain ⟨E, hE⟩ : ∃ E, lim e 512 = E := ⟨_, rfl⟩
  obtain ⟨T, hT⟩ : ∃ T, lim t 60 = T := ⟨_, rfl⟩
  have HE : Hid (lim e 512 = E) := hE
  have HT : Hid (lim t 60 = T) := hT
  rw [hE, hT]
  clear hE hT
  obtain ⟨wa, hwa⟩ : ∃ wa, wa = w.alloc (.cells #[.int .i64 (E : Nat), .int .i64 (T : Nat)] 34) := ⟨_, rfl⟩
  go_enter Tryz.func10, Tryz.ntmps10
  go_upto_region 1 with fail
  go_cut [4] from 5 to 9 (fun v wx => v = .pointer none ∧ wx = w.alloc (.cells #[.int .i64 (E : Nat), .int .i64 t] 34))
  case first =>
    go_wp2
    all_goals
      go_meet
      have h1 := HE.out
      unfold lim at h1
      refine ⟨rfl, ?_⟩
      first
        | rw [show ((E : Nat) : Int) = 0 by omega]
        | rw [show ((E : Nat) : Int) = 512 by omega]
        | rw [show ((E : Nat) : Int) = e by omega]
  case rest =>
  obtain ⟨rfl, rfl⟩ := hcut
  go_upto_region 2 with fail
  go_cut [4] from 10 to 14 (fun v wx => v = .pointer none ∧ wa = wx)
  case first =>
    go_wp2
    all_goals
      go_meet
      have h1 := HT.out
      unfold lim at h1
      refine ⟨rfl, ?_⟩
      rw [hwa]
      first
        | rw [show ((T : Nat) : Int) = 0 by omega]
        | rw [show ((T : Nat) : Int) = 60 by omega]
        | rw [show ((T : Nat) : Int) = t by omega]
  case rest =>
  obtain ⟨rfl, rfl⟩ := hcut
  have hba : Below w.heap.size w wa := by rw [hwa]; exact alloc_below w _
  have hbd : Below w.heap.size w wa.drew := hba.trans ((below_drewN wa 1).mono hba.size)
  have hsz : w.heap.size < wa.drew.heap.size := by
    show w.heap.size < wa.heap.size
    rw [hwa]
    exact (Array.getElem?_eq_some_iff.1 (heap_alloc_new w _)).1
  have hc1 : wa.drew.cell? ⟨w.heap.size, 0, none⟩ = some (.int .i64 (E : Nat)) := by subst hwa; simp
  have hc2 : wa.drew.cell? ⟨w.heap.size, 1, none⟩ = some (.int .i64 (T : Nat)) := by subst hwa; simp
  have HN := New_any wa.drew
  have HBd : Hid (Below w.heap.size w wa.drew) := hbd
  have HCk : Hid (∀ w2, Below wa.drew.heap.size wa.drew w2 → w2.cell? ⟨w.heap.size, 0, none⟩ = some (.int .i64 (E : Nat)) ∧ w2.cell? ⟨w.heap.size, 1, none⟩ = some (.int .i64 (T : Nat))) := fun w2 hb => ⟨by rw [hb.cell (p := ⟨w.heap.size, 0, none⟩) hsz]; exact hc1, by rw [hb.cell (p := ⟨w.heap.size, 1, none⟩) hsz]; exact hc2⟩
  clear hwa hba hbd hsz
  go_wp2_with fail
  go_region_with (go_at_call 30; refine HN.mono ?_; rintro e1 w2 ⟨hb, p, a, n, c, rfl, hP⟩; obtain ⟨hk1, hk2⟩ := HCk.out w2 hb; have HB2 := step_below HBd hb; have HP2 : Hid (Pk w2 w.heap.size p a n c []) := hP.low' HBd.out.size; clear hb hP)
  all_goals
    have HR : Hid (Small (w2.alloc (.cells #[.int .u64 (x : Nat), .int .i64 (E : Nat), .int .i64 (T : Nat), ptr p, .pointer none] 70)) w.heap.size w2.heap.size x E T p a n c []) :=
      Small.mk (Hb.mk (heap_alloc_new w2 _)) (HP2.out.keep (alloc_below w2 _)) HB2.out.size (Nat.zero_le _) (fun _ h => absurd h List.not_mem_nil) List.nodup_nil (HE.out ▸ lim_le e 512) (HT.out ▸ lim_le t 60)
    go_wp2
    go_ret
    exact ⟨HB2.out.trans ((alloc_below w2 _).mono HB2.out.size), _, p, a, n, c, rfl, HR.out⟩

theorem Leaf.lower {w : World} {B C x : Nat} {f : Dk.Lf} (h : Dk.Leaf w B x f) (hC : C ≤ B) : Dk.Leaf w C x f :=
  ⟨h.blk, Dk.OwnR.low h.row hC, fun t ht => (h.tab t ht).lower hC, Nat.le_trans hC h.low, h.nod, h.key, h.pos⟩
theorem Dct.lower {w : World} {B C d x : Nat} {D : Dg} (h : Dct w B d x D) (hC : C ≤ B) : Dct w C d x D :=
  ⟨h.blk, Dk.OwnR.low h.row hC, fun f hf => Leaf.lower (h.leaf f hf) hC, h.shp, h.dir, h.own, h.one, h.ful, h.nod, Nat.le_trans hC h.low, h.seed, h.le⟩
/-- The pack of a set is left for a dict. -/
theorem Small.un {w w1 w2 : World} {B m x E T p d : Nat} {a : Option Addr} {n c : Nat} {l : List ByteArray} {D : Dg} (h : Small w B m x E T p a n c l) (hb : Below w.heap.size w w1) (hB : B ≤ w.heap.size) (hD : Dct w1 w.heap.size d x D) (hp : (keysOf D.es).Perm l) (e2 : w2 = (w1.setCell ⟨m, 4, none⟩ (ptr d)).setCell ⟨m, 3, none⟩ (.pointer none)) :
    Large w2 B m x E T d D ∧ Stay w w2 [m] := by
  have hb1 := h.blk.keep hb
  have hne : m ∉ d :: D.pb :: Dk.fpL D.L := fun hm => by have := (hD.fplt m hm).1; have := h.blk.lt; omega
  have hS : Stay w1 w2 [m] := by
    rw [e2]
    exact Stay.set.trans (M' := [m]) Stay.set (fun i hi => .inl hi)
  refine ⟨⟨by rw [e2]; exact (hb1.setL _).setS _, ?_, h.low, (h.sz.mono (by have := h.hT; omega)).perm hp.symm, h.hE, h.hT⟩, (Stay.of_below hb [m]).trans hS (fun i hi => .inl hi)⟩
  have h1 := hD.stay hS (fun k hk hm => hne (by simp only [List.mem_singleton] at hm; exact hm ▸ hk))
  exact Dct.lower h1 hB
set_option maxRecDepth 100000 in
set_option maxHeartbeats 4000000 in
theorem unpack_any (B m x E T p : Nat) (a : Option Addr) (n c : Nat) (l : List ByteArray) (w : World) (hx : x < 18446744073709551616) (h : Small w B m x E T p a n c l) (hB : B ≤ w.heap.size) :
    Calls Tryz.prog 32 #[ptr m] w fun e w' => e = .returned (.tuple #[]) ∧ ∃ d D, Large w' B m x E T d D ∧ (keysOf D.es).Perm l ∧ Stay w w' [m] ∧ (∀ k ∈ d :: D.pb :: Dk.fpL D.L, w.heap.size ≤ k) := by
  have hbd : Below w.heap.size w w.drew := below_drewN w 1
  have hcd := (h.blk.keep hbd).cx
  have HA := All_small B m x E T p a n c l w.drew (h.keep hbd)
  have HSm : Hid (Small w B m x E T p a n c l) := h
  have HBd : Hid (Below w.heap.size w w.drew) := hbd
  have hn5 : l.length ≤ 512 := by have := h.le; have := h.hE; omega
  clear h hbd
  go_enter Tryz.func32, Tryz.ntmps32
  go_wp2_with fail
  go_cut [2, 9] from 3 to 11 (fun v u wx => ∃ d D w1, v = ptr m ∧ u = ptr d ∧ wx = w1.setCell ⟨m, 4, none⟩ (ptr d) ∧ Hid (Below w.heap.size w w1) ∧ Hid (Dct w1 w.heap.size d x D) ∧ Hid ((keysOf D.es).Perm l))
  case first =>
    go_region_with (first
      | (go_at_call 21; refine HA.mono ?_; rintro e w2 ⟨hb, a2, n2, c2, rfl, hO2⟩; have HB2 := step_below HBd hb; have HO2 : Hid (OwnS w2 w.heap.size a2 n2 c2 l) := Dk.OwnR.low hO2 HBd.out.size; have hcx := (HSm.out.keep HB2.out).blk.cx; have hn2 : l.length = n2 := hO2.len; clear hb hO2)
      | (go_at_call 51; refine (dictOf_any w.heap.size x a2 n2 c2 l _ hx HO2.out (HSm.out.sz.mono (by have := HSm.out.hT; omega)) HSm.out.nod (by omega)).mono ?_; rintro e w3 ⟨hb, d, D, rfl, hD, hp⟩; have HB3 := step_below HB2 hb; have HD3 : Hid (Dct w3 w.heap.size d x D) := Dct.lower hD HB2.out.size; have HE3 : Hid ((keysOf D.es).Perm l) := hp; have hcl := (HSm.out.keep HB3.out).blk.cl; have hfz := (HSm.out.keep HB3.out).blk.fz 4; clear hb hD hp))
    all_goals
      go_wp2
      go_meet
      exact ⟨d, D, w3, rfl, rfl, rfl, HB3, HD3, HE3⟩
  case rest =>
  obtain ⟨d, D, w1, rfl, rfl, rfl, HB1, HD1, HE1⟩ := hcut
  have hcs : (w1.setCell ⟨m, 4, none⟩ (ptr d)).cell? ⟨m, 3, none⟩ = some (ptr p) := ((HSm.out.blk.keep HB1.out).setL _).cs
  have hfz := ((HSm.out.blk.keep HB1.out).setL (ptr d)).fz 3
  have HR : Hid (Large ((w1.setCell ⟨m, 4, none⟩ (ptr d)).setCell ⟨m, 3, none⟩ (.pointer none)) B m x E T d D ∧ Stay w ((w1.setCell ⟨m, 4, none⟩ (ptr d)).setCell ⟨m, 3, none⟩ (.pointer none)) [m]) := HSm.out.un HB1.out hB HD1.out HE1.out rfl
  have HF : Hid (∀ k ∈ d :: D.pb :: Dk.fpL D.L, w.heap.size ≤ k) := fun k hk => (HD1.out.fplt k hk).1
  go_wp2
  go_end0
  exact ⟨rfl, d, D, HR.out.1, HE1.out, HR.out.2, HF.out⟩

set_option maxHeartbeats 1000000 in
theorem sfits_yes (B m x E T p : Nat) (a : Option Addr) (n c : Nat) (l : List ByteArray) (k : ByteArray) (w : World) (h : Small w B m x E T p a n c l) (h1 : k.size ≤ T) (h2 : l.length < E) :
    Calls Tryz.prog 31 #[ptr m, .string k] w fun e w' => e = .returned (.bool true) ∧ Below w.heap.size w w' := by
  have hcE := h.blk.cE
  have hcT := h.blk.cT
  have HL := fun q => Len_small B m x E T p a n c l (w.drewN q) (h.keep (below_drewN w q))
  have hE := h.hE
  have hT := h.hT
  have z1 : decide (k.size ≤ T) = true := decide_eq_true h1
  generalize l.length = q at HL h2
  have z2 : decide (q < E) = true := decide_eq_true h2
  have HB : Hid (∀ q, Below w.heap.size w (w.drewN q)) := fun q => below_drewN w q
  clear h
  go_enter Tryz.func31, Tryz.ntmps31
  go_wp2_with fail
  go_quiet ((go_at_call 13; exact Calls.quiet_of_same (HL _)))
  go_wp2
  go_ret
  exact ⟨rfl, HB.out _⟩
set_option maxHeartbeats 1000000 in
theorem sfits_no (B m x E T p : Nat) (a : Option Addr) (n c : Nat) (l : List ByteArray) (k : ByteArray) (w : World) (h : Small w B m x E T p a n c l) (h1 : ¬ (k.size ≤ T ∧ l.length < E)) :
    Calls Tryz.prog 31 #[ptr m, .string k] w fun e w' => e = .returned (.bool false) ∧ Below w.heap.size w w' := by
  have hcE := h.blk.cE
  have hcT := h.blk.cT
  have HL := fun q => Len_small B m x E T p a n c l (w.drewN q) (h.keep (below_drewN w q))
  have hE := h.hE
  have hT := h.hT
  have HB : Hid (∀ q, Below w.heap.size w (w.drewN q)) := fun q => below_drewN w q
  clear h
  by_cases h2 : k.size ≤ T
  · have z1 : decide (k.size ≤ T) = true := decide_eq_true h2
    have h3 : ¬ l.length < E := fun h3 => h1 ⟨h2, h3⟩
    generalize l.length = q at HL h3
    have z2 : decide (q < E) = false := decide_eq_false h3
    clear h1 h3
    go_enter Tryz.func31, Tryz.ntmps31
    go_wp2_with fail
    go_quiet ((go_at_call 13; exact Calls.quiet_of_same (HL _)))
    go_wp2
    go_ret
    exact ⟨rfl, HB.out _⟩
  · have z1 : decide (k.size ≤ T) = false := decide_eq_false h2
    clear h1 h2
    go_enter Tryz.func31, Tryz.ntmps31
    go_wp2_with fail
    go_quiet ((go_at_call 13; exact Calls.quiet_of_same (HL _)))
    go_wp2
    go_ret
    exact ⟨rfl, HB.out _⟩
end Go.Proofs.YtkohjejfkbaffaaGreat

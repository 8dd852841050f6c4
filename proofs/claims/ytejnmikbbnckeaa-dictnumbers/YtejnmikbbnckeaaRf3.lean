/-
  The document's own dict: Bucket, Scan.
-/
import Derived.Test.YtejnmikbbnckeaaRf2
namespace Go.Proofs.Ytejnmikbbnckeaa
open Go.RowKit Go.PlainAid

set_option maxHeartbeats 4000000 in
theorem RBucket_any (B r x g pr cap : Nat) (ps : List Rp) (c : Nat) (w : World) (hR : RefD w B r x g pr cap ps) (hc : c < 18446744073709551616) :
    Calls Try.prog 46 #[ptr r, .int .u64 c] w fun e w' => Below w.heap.size w w' ∧ ∃ a n cp, e = .returned (.slice a n cp) ∧ OwnS w' w.heap.size a n cp (bkt x g (rks ps) c) := by
  have HAl := All_any B r x g pr cap ps w hR
  have hg := hR.shp.le
  have hx := hR.seed
  have HRB := fun w => refBucket_nat c g w hc hg
  have HRL : ∀ (h : Nat) (w : World), h < 18446744073709551616 → Calls Try.prog 21 #[.int .u64 h, .int .i64 g] w fun e w' => e = .returned (.int .u64 (h % 2 ^ g : Nat)) ∧ w' = w := fun h w hh => refLow_nat h g w hh hg
  have HSd : Hid (∀ w', Below w.heap.size w w' → w'.cell? ⟨r, 0, none⟩ = some (.int .u64 (x : Nat)) ∧ w'.cell? ⟨r, 1, none⟩ = some (.int .i64 (g : Nat))) := fun w' hb => ⟨(hR.keep hb).cseed, (hR.keep hb).cdep⟩
  have HLe : Hid ((rks ps).length ≤ 1000000) := hR.le
  have HSz : Hid (∀ k ∈ rks ps, k.size ≤ maxLen) := hR.siz
  generalize rks ps = ks at HAl HLe HSz ⊢
  have HBk : Hid (∀ i k, ks[i]? = some k → bkt x g (ks.take (i + 1)) c = bkt x g (ks.take i) c ++ (if hsh x k % 2 ^ g = c % 2 ^ g then [k] else [])) := by
    intro i k hk
    rw [take_more hk, bkt_append]
    congr 1
    unfold bkt
    by_cases e : hsh x k % 2 ^ g = c % 2 ^ g
    · rw [if_pos e, List.filter_cons_of_pos (by simpa using e)]; rfl
    · rw [if_neg e, List.filter_cons_of_neg (by simpa using e)]; rfl
  have hpw := pow_le_16 hg
  have hmod : ∀ h, h % 2 ^ g < 65536 := fun h => Nat.lt_of_lt_of_le (Nat.mod_lt _ (pow_pos _)) hpw
  have HMd : Hid (∀ h, h % 2 ^ g < 65536) := hmod
  obtain ⟨pl, hpl⟩ : ∃ pl, c % 2 ^ g = pl := ⟨_, rfl⟩
  rw [hpl] at HRB HBk
  clear hR hmod hpl hpw
  go_enter Try.func46, Try.ntmps46
  go_wp2_with fail
  refine HAl.mono ?_
  rintro e w1 ⟨hb1, ak, nk, ck, rfl, hO1⟩
  have HB1 : Hid (Below w.heap.size w w1) := hb1
  have HOk : Hid (OwnS w1 w.heap.size ak nk ck ks) := hO1
  have HNk : Hid (ks.length = nk) := OwnS.len hO1
  have hnk : nk ≤ 1000000 := by have := HNk.out; have := HLe.out; omega
  have HO : Hid (OwnS w1 w1.heap.size none 0 0 (bkt x g (ks.take 0) c)) := OwnR.nil _ _ _ _
  clear hb1 hO1 HAl
  go_wp2
  go_loopg [5, 7] nk (fun q sv iv wr => ∃ (i : Nat) (a : Option Addr) (n cp : Nat), i + q = nk ∧ iv = .int .i64 i ∧ sv = .slice a n cp ∧ Hid (OwnS wr w1.heap.size a n cp (bkt x g (ks.take i) c)) ∧ Hid (Below w1.heap.size w1 wr))
  case atStart => exact ⟨0, none, 0, 0, by omega, rfl, rfl, HO, Below.refl _ _⟩
  case round =>
    clear HO
    obtain ⟨i, a, n, cp, hi, rfl, rfl, HO, HB⟩ := hrel
    by_cases h8 : (i : Int) < nk
    · obtain ⟨k, hk, hkm⟩ := get_of_lt (l := ks) (i := i) (by have := HNk.out; omega)
      obtain ⟨gk', hgk, hcell0⟩ := OwnS.cell (OwnR.keep HOk.out HB.out) (j := i) (by omega)
      subst hgk
      rw [List.getD_eq_getElem?_getD, hk] at hcell0
      simp only [Option.getD_some] at hcell0
      obtain ⟨hs0, hs1⟩ := HSd.out wr (HB1.out.trans (HB.out.mono HB1.out.size))
      have hOf := fun w => refOf_hsh x k w (HSz.out k hkm) hx
      have hLw := fun w => HRL (hsh x k) w (hsh_lt x k)
      have hmd := HMd.out (hsh x k)
      have HS := HBk.out i k hk
      have HN1 : Hid (n + 1 ≤ 2000000) := by
        have h1 := OwnS.len HO.out
        have h2 : (bkt x g (ks.take i) c).length ≤ (ks.take i).length := List.length_filter_le _ _
        rw [List.length_take] at h2
        show _ ≤ _
        omega
      generalize hsh x k = h at hOf hLw hmd HS
      clear hk hkm HRL
      by_cases e : h % 2 ^ g = pl
      · rw [if_pos e] at HS
        have HS1 : Hid (bkt x g (ks.take (i + 1)) c = bkt x g (ks.take i) c ++ [k]) := HS
        rw [e] at hLw
        clear HS e hmd
        go_wp2
        go_quiet ((first | (go_at_call 22; with_reducible exact Calls.quiet_of_same (hOf _)) | (go_at_call 21; with_reducible exact Calls.quiet_of_same (hLw _)) | (go_at_call 23; with_reducible exact Calls.quiet_of_same (HRB _))))
        obtain ⟨w3, hw3⟩ : ∃ w3, wr.drewN nq = w3 := ⟨_, rfl⟩
        have hB3' : Below wr.heap.size wr w3 := by rw [← hw3]; exact below_drewN wr nq
        have HB3 := step_below HB hB3'
        have HO3 : Hid (OwnS w3 w1.heap.size a n cp (bkt x g (ks.take i) c)) := OwnR.keep HO.out hB3'
        have hcell : w3.cell? ⟨gk', i, none⟩ = some (.string k) := by rw [hB3'.cell (p := ⟨gk', i, none⟩) (World.block_lt_of_cell? _ _ hcell0)]; exact hcell0
        rw [hw3]
        have hsz := HB3.out.size
        clear hw3 hB3' HO HB hcell0 hs0 hs1 hOf hLw
        go_wp2_with (at_builtin; refine append_r rfl (.tmp 37) (.tmp 42) rfl eltS w1.heap.size rfl (OwnR.keep HO3.out (alloc_below w3 _)) [.string k] rfl rfl (by intro j u hu; cases j with | zero => (rw [add_flat]; simp only [World.cell?, heap_alloc_new]; exact hu) | succ j => simp at hu) (by simp [Value.oneCell']) (by decide) (by have := HN1.out; omega) (by have := HN1.out; unfold maxLen; omega) (Nat.le_trans hsz (alloc_below w3 _).size) ?_; intro a4 n4 c4 w4 hn4 HO4 HG4 HW4; have HB4 : Hid (Below w1.heap.size w1 w4) := (HB3.out.trans ((alloc_below w3 _).mono hsz)).trans ((OwnR.keep HO3.out (alloc_below w3 _)).below HG4.out (Nat.le_trans hsz (alloc_below w3 _).size)))
        go_roundg (gk - 1)
        case measure => omega
        case rel => exact ⟨i + 1, _, _, _, by omega, by go_num, rfl, by rw [HS1.out, ← hn4]; rw [show scells (bkt x g (ks.take i) c) ++ [.string k] = scells (bkt x g (ks.take i) c ++ [k]) by rw [scells_append]; rfl] at HO4; exact HO4, HB4⟩
      · rw [if_neg e, List.append_nil] at HS
        have HS1 : Hid (bkt x g (ks.take (i + 1)) c = bkt x g (ks.take i) c) := HS
        generalize h % 2 ^ g = y at hLw e hmd
        have hne : ((y : Int) == (pl : Int)) = false := by simp; omega
        clear HS e
        go_wp2
        go_quiet ((first | (go_at_call 22; with_reducible exact Calls.quiet_of_same (hOf _)) | (go_at_call 21; with_reducible exact Calls.quiet_of_same (hLw _)) | (go_at_call 23; with_reducible exact Calls.quiet_of_same (HRB _))))
        have HB3 := step_below HB (below_drewN wr nq)
        have HO3 : Hid (OwnS (wr.drewN nq) w1.heap.size a n cp (bkt x g (ks.take i) c)) := OwnR.keep HO.out (below_drewN wr nq)
        generalize wr.drewN nq = w3 at HB3 HO3 ⊢
        clear HO HB hcell0 hs0 hs1 hOf hLw
        go_wp2
        go_roundg (gk - 1)
        case measure => omega
        case rel => exact ⟨i + 1, _, _, _, by omega, by go_num, rfl, by rw [HS1.out]; exact HO3, HB3⟩
    · have HT : Hid (ks.take i = ks) := by show _ = _; rw [List.take_of_length_le (by have := HNk.out; omega)]
      rw [HT.out] at HO
      go_wp2
      go_ret
      exact ⟨HB1.out.trans (HB.out.mono HB1.out.size), _, _, _, rfl, HO.out.low HB1.out.size⟩

set_option maxHeartbeats 4000000 in
theorem rscan_loop (B r x g pr cap : Nat) (ps : List Rp) (c0 cc : Nat) (count : Int) (w : World) (hR : RefD w B r x g pr cap ps) (hc : c0 < 18446744073709551616) (hcc : 1 ≤ cc ∧ cc ≤ 1000) (hcs : (count < 1 ∧ cc = 1) ∨ (1000 < count ∧ cc = 1000) ∨ (1 ≤ count ∧ count ≤ 1000 ∧ count = (cc : Nat))) :
    Calls Try.prog 49 #[ptr r, .int .u64 c0, .int .i64 count] w fun e w' => Below w.heap.size w w' ∧ ∃ a n cp, e = .returned (.tuple #[.slice a n cp, .int .u64 ((scanP x g (rks ps) cc (10 * cc) [] c0).2 : Nat)]) ∧ OwnS w' w.heap.size a n cp (scanP x g (rks ps) cc (10 * cc) [] c0).1 := by
  have HRr : Hid (RefD w B r x g pr cap ps) := hR
  have hg := hR.shp.le
  have HBu := fun c w hR (hc : c < 18446744073709551616) => RBucket_any B r x g pr cap ps c w hR hc
  have HNx := fun c w (hc : c < 18446744073709551616) => refNext_nat c g w hc hg
  have HLe : Hid ((rks ps).length ≤ 1000000) := hR.le
  have HNl : Hid (∀ c, nxt g c < 18446744073709551616) := fun c => by have h1 := nxt_lt g c; have h2 := pow_le_16 hg; omega
  have HDp : Hid (∀ w', Below w.heap.size w w' → w'.cell? ⟨r, 1, none⟩ = some (.int .i64 (g : Nat))) := fun w' hb => (hR.keep hb).cdep
  generalize hRR : scanP x g (rks ps) cc (10 * cc) [] c0 = R
  have HR : Hid (scanP x g (rks ps) cc (10 * cc) [] c0 = R) := hRR
  generalize rks ps = ks at HBu HLe HR
  clear hR hRR
  have HO : Hid (OwnS w w.heap.size none 0 0 []) := OwnR.nil _ _ _ _
  obtain ⟨hc1, hc2⟩ := hcc
  have hccz : (1 : Int) ≤ cc := by omega
  have hccy : (cc : Int) ≤ 1000 := by omega
  go_enter Try.func49, Try.ntmps49
  go_upto_if 11 with fail
  go_cut [2, 11] from 12 to 11 (fun v v11 wx => w = wx ∧ ((v = .int .i64 1 ∧ cc = 1) ∨ (1 ≤ count ∧ v = .int .i64 count)))
  case first =>
    clear HBu HNx HLe HNl HR HO HDp
    by_cases h1 : count < 1
    · have h2 : cc = 1 := by omega
      have H2 : Hid (cc = 1) := h2
      clear h2 hcs
      go_wp2
      go_meet
      exact ⟨rfl, .inl ⟨rfl, H2.out⟩⟩
    · have H2 : Hid (1 ≤ count) := by show _ ≤ _; omega
      clear hcs
      go_wp2
      go_meet
      exact ⟨rfl, .inr ⟨H2.out, rfl⟩⟩
  case rest =>
  obtain ⟨rfl, hv⟩ := hcut
  obtain ⟨c1, rfl, hc1'⟩ : ∃ c1 : Int, u2 = .int .i64 c1 ∧ ((c1 = 1 ∧ cc = 1) ∨ (1 ≤ count ∧ c1 = count)) := by
    rcases hv with ⟨rfl, h⟩ | ⟨h, rfl⟩
    · exact ⟨1, rfl, .inl ⟨rfl, h⟩⟩
    · exact ⟨count, rfl, .inr ⟨h, rfl⟩⟩
  clear hv
  have hcs2 : (1000 < c1 ∧ cc = 1000) ∨ (c1 ≤ 1000 ∧ c1 = (cc : Nat)) := by omega
  clear hcs hc1'
  go_upto_if 13 with fail
  go_cut [2, 13] from 14 to 13 (fun v v13 wx => w = wx ∧ v = .int .i64 cc)
  case first =>
    clear HBu HNx HLe HNl HR HO HDp
    rcases hcs2 with ⟨h1, h2⟩ | ⟨h1, h2⟩
    · subst h2
      go_wp2
      go_meet
      exact ⟨rfl, rfl⟩
    · subst h2
      go_wp2
      go_meet
      exact ⟨rfl, rfl⟩
  case rest =>
  obtain ⟨rfl, rfl⟩ := hcut
  clear hcs2
  have HR0 : Hid (scanP x g ks cc (10 * cc) [] c0 = R) := HR
  obtain ⟨M, hM⟩ : ∃ M, 10 * cc = M := ⟨_, rfl⟩
  have hMz : 10 * (cc : Int) = (M : Nat) := by omega
  have hM4 : M ≤ 10000 := by omega
  rw [hM] at HR0
  clear HR hM
  go_wp2
  go_loopg [1, 8, 9] M (fun q cv sv iv wr => ∃ (i c n cp : Nat) (a : Option Addr) (acc : List ByteArray), i + q = M ∧ iv = .int .i64 i ∧ cv = .int .u64 c ∧ c < 18446744073709551616 ∧ sv = .slice a n cp ∧ n < 1000 ∧ Hid (OwnS wr w.heap.size a n cp acc) ∧ Hid (Below w.heap.size w wr) ∧ Hid (scanP x g ks cc q acc c = R))
  case atStart => exact ⟨0, c0, 0, 0, none, [], by omega, rfl, rfl, hc, rfl, by omega, HO, Below.refl _ _, HR0⟩
  case round =>
    clear HO HR0
    obtain ⟨i, c, n, cp, a, acc, hi, rfl, rfl, hc, rfl, hn, HO, HB, HR⟩ := hrel
    by_cases h8 : (i : Int) < M
    · obtain ⟨q, rfl⟩ : ∃ q, gk = q + 1 := ⟨gk - 1, by omega⟩
      have hB := HBu c wr (HRr.out.keep HB.out) hc
      have HB0 : Hid ((bkt x g ks c).length ≤ 1000000) := Nat.le_trans (bkt_le x g ks c) HLe.out
      have hNx := fun w => HNx c w hc
      have hnl := HNl.out c
      have HRu : Hid ((if nxt g c = 0 ∨ cc ≤ (acc ++ bkt x g ks c).length then (acc ++ bkt x g ks c, nxt g c) else scanP x g ks cc q (acc ++ bkt x g ks c) (nxt g c)) = R) := HR.out
      generalize bkt x g ks c = bk at hB HB0 HRu
      generalize nxt g c = c1 at hNx hnl HRu
      clear HBu HNx HR
      go_wp2_with fail
      refine hB.mono ?_
      rintro e w1 ⟨hb1, a1, n1, cp1, rfl, hO1⟩
      have HO1 : Hid (OwnS w1 wr.heap.size a1 n1 cp1 bk) := hO1
      have HB1 := step_below HB hb1
      have HO0 : Hid (OwnS w1 w.heap.size a n cp acc) := OwnR.keep HO.out hb1
      have HN1 : Hid (n + n1 ≤ 2000000) := by
        have h2 := OwnS.len hO1
        have h3 := HB0.out
        show _ ≤ _
        omega
      clear hb1 hO1 hB HO HB
      go_wp2_with (at_builtin; refine append_p rfl (.tmp 20) (.tmp 23) rfl eltS w.heap.size rfl HO0.out rfl HO1.out.rd scells_one (by have := HN1.out; omega) (by have := HN1.out; unfold maxLen; omega) HB1.out.size ?_; intro a3 n3 c3 w3 hn3 HO3 HG3; have HB3 : Hid (Below w.heap.size w w3) := HB1.out.trans (HO0.out.below HG3.out HB1.out.size); have hdp := HDp.out _ HB3.out)
      refine (hNx _).mono ?_
      rintro e w3 ⟨rfl, rfl⟩
      rw [← scells_append] at HO3
      have HL3 : Hid ((acc ++ bk).length = n + n1) := by have := OwnS.len HO3.out; show _ = _; omega
      rw [hn3] at HO3
      have hnn : n + n1 ≤ 2000000 := HN1.out
      clear HO0 HO1 HB1 HG3 hNx HN1 hn3 hdp
      by_cases h1 : c1 = 0
      · have HE : Hid ((acc ++ bk, c1) = R) := by have := HRu.out; rw [if_pos (.inl h1)] at this; exact this
        clear HRu
        subst h1
        go_wp2
        go_ret2
        refine ⟨HB3.out, a3, n + n1, c3, ?_, ?_⟩
        · rw [← HE.out]; rfl
        · rw [← HE.out]; exact HO3.out
      · have hz : ((c1 : Int) == 0) = false := by simp; omega
        by_cases h2 : cc ≤ n + n1
        · have HE : Hid ((acc ++ bk, c1) = R) := by have := HRu.out; rw [if_pos (.inr (by rw [HL3.out]; exact h2))] at this; exact this
          clear HRu
          have h2z : (cc : Int) ≤ (n : Int) + n1 := by omega
          clear h1 h2
          go_wp2
          go_ret2
          refine ⟨HB3.out, a3, n + n1, c3, ?_, ?_⟩
          · rw [← HE.out]; rfl
          · rw [← HE.out]; exact HO3.out
        · have HE : Hid (scanP x g ks cc q (acc ++ bk) c1 = R) := by have := HRu.out; rw [if_neg (by rw [HL3.out]; omega)] at this; exact this
          clear HRu
          have h2z : decide ((cc : Int) ≤ (n : Int) + n1) = false := decide_eq_false (by omega)
          have h3 : n + n1 < 1000 := by omega
          clear h1 h2
          go_wp2
          go_roundg q
          case measure => omega
          case rel => exact ⟨i + 1, c1, _, c3, a3, acc ++ bk, by omega, by go_num, rfl, hnl, rfl, h3, HO3, HB3, HE⟩
    · obtain rfl : gk = 0 := by omega
      have HE : Hid ((acc, c) = R) := HR.out
      clear HR HBu HNx
      go_wp2
      go_ret2
      refine ⟨HB.out, a, n, cp, ?_, ?_⟩
      · rw [← HE.out]; rfl
      · rw [← HE.out]; exact HO.out
theorem RScan_any (B r x g pr cap : Nat) (ps : List Rp) (c : Nat) (count : Int) (w : World) (hR : RefD w B r x g pr cap ps) (hc : c < 18446744073709551616) :
    Calls Try.prog 49 #[ptr r, .int .u64 c, .int .i64 count] w fun e w' => Below w.heap.size w w' ∧ ∃ a n cp, e = .returned (.tuple #[.slice a n cp, .int .u64 ((scanP x g (rks ps) (cntC count) (10 * cntC count) [] c).2 : Nat)]) ∧ OwnS w' w.heap.size a n cp (scanP x g (rks ps) (cntC count) (10 * cntC count) [] c).1 :=
  rscan_loop B r x g pr cap ps c (cntC count) count w hR hc (cntC_le count) (cntC_cases count)
end Go.Proofs.Ytejnmikbbnckeaa

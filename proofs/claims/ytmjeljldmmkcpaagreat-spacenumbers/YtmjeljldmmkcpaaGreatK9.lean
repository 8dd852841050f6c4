/- Texts that the others stand on. -/
import Derived.Test.YtmjeljldmmkcpaaGreatK8
set_option maxHeartbeats 4000000
namespace Go.Proofs.YtmjeljldmmkcpaaGreat.Dk
open Go.RowKit Go.PlainAid
theorem Keys_dict (B d x : Nat) (D : Dg) (w : World) (hD : Dct w B d x D) :
  Calls Tryz.prog 73 #[ptr d] w fun e w' => Below w.heap.size w w' ∧ ∃ a n c, e = .returned (.slice a n c) ∧ OwnS w' w.heap.size a n c (Ae (esL (ordU D.L (2 ^ D.g)))) := by
 have HD : Hid (Dct w B d x D) := hD
 have hLs := leaves_any B d x D w hD
 have HPm : Hid ((ordU D.L (2 ^ D.g)).Perm D.L) := hD.ord_perm
 have HOL := ordU_le D.L (2 ^ D.g)
 have hpw := hD.pow
 have HTot : Hid ((esL (ordU D.L (2 ^ D.g))).length ≤ 1000000) := by
  have h1 := (HPm.out.flatMap_right Lf.es).length_eq
  have h2 := hD.le
  unfold Dg.es esL at h2
  unfold esL
  show _ ≤ _
  omega
 generalize ordU D.L (2 ^ D.g) = Lo at hLs HPm HTot HOL ⊢
 clear hD
 go_enter Tryz.func73, Tryz.ntmps73
 go_wp2_with fail
 refine hLs.mono ?_
 rintro e w1 ⟨hb1, al, nl, cl, rfl, hO1⟩
 have HB1 : Hid (Below w.heap.size w w1) := hb1
 have HOl : Hid (OwnP w1 w.heap.size 123 al nl cl (Lo.map Lf.a)) := hO1
 have HNl : Hid (Lo.length = nl) := by have := OwnP.len hO1; rw [List.length_map] at this; exact this
 have hnl : nl ≤ 65536 := by have := HNl.out; omega
 have HO : Hid (OwnS w1 w1.heap.size none 0 0 (Ae (esL (Lo.take 0)))) := OwnR.nil _ _ _ _
 clear hb1 hO1 hLs HOL hpw
 go_wp2
 go_loopg [3, 5, 9] nl (fun q sv lv iv wr => ∃ (i : Nat) (a : Option Addr) (n c : Nat), i + q = nl ∧ iv = .int .i64 i ∧ sv = .slice a n c ∧ Hid (OwnS wr w1.heap.size a n c (Ae (esL (Lo.take i)))) ∧ Hid (Below w1.heap.size w1 wr))
 case atStart => exact ⟨0, none, 0, 0, by omega, rfl, rfl, HO, Below.refl _ _⟩
 case round =>
  clear HO
  obtain ⟨i, a, n, c, hi, rfl, rfl, HO, HB⟩ := hrel
  by_cases h8 : (i : Int) < nl
  ·obtain ⟨f, hf, hfm⟩ := A6 (l := Lo) (i := i) (by have := HNl.out; omega)
   have hfD : f ∈ D.L := HPm.out.mem_iff.1 hfm
   have hBw : Below w.heap.size w wr := HB1.out.trans (HB.out.mono HB1.out.size)
   have hDr := HD.out.keep hBw
   obtain ⟨gl, rfl, -⟩ := OwnR.at HOl.out (by omega)
   have hcell := OwnP.cell (OwnR.keep HOl.out HB.out) (j := i) (p := f.a) (by rw [List.getElem?_map, hf]; rfl)
   have hK := keys_any B x f wr (hDr.leaf f hfD) (hDr.les hfD)
   have HS : Hid (Ae (esL (Lo.take (i + 1))) = Ae (esL (Lo.take i)) ++ Ae f.es) := by show _ = _; rw [B3 hf, Aq, Aj, esL_one]
   have HLe : Hid ((Ae (esL (Lo.take (i + 1)))).length ≤ 1000000) := by
    have h1 := HTot.out
    rw [← List.take_append_drop (i + 1) Lo, Aq, List.length_append] at h1
    show _ ≤ _
    rw [List.length_map]
    omega
   rw [HS.out] at HLe
   generalize Ae f.es = ks at hK HS HLe
   generalize f.a = fa at hcell hK
   clear hf hfm hfD hBw hDr
   go_wp2_with fail
   refine hK.mono ?_
   rintro e w2 ⟨hb2, a1, n1, c1, rfl, hO1⟩
   have HO1 : Hid (OwnS w2 wr.heap.size a1 n1 c1 ks) := hO1
   have HB2 := Ad HB hb2
   have HO0 : Hid (OwnS w2 w1.heap.size a n c (Ae (esL (Lo.take i)))) := OwnR.keep HO.out hb2
   have HN1 : Hid (n + n1 ≤ 1000000) := by
    have h1 := OwnS.len HO.out
    have h2 := OwnS.len hO1
    have h3 := HLe.out
    rw [List.length_append] at h3
    show _ ≤ _
    omega
   clear hb2 hO1 hK
   go_wp2_with (at_builtin; refine append_p rfl (.tmp 13) (.tmp 15) rfl eltS w1.heap.size rfl HO0.out rfl HO1.out.rd scells_one (by have := HN1.out; omega) (by have := HN1.out; unfold maxLen; omega) HB2.out.size ?_; intro a3 n3 c3 w3 hn3 HO3 HG3; have HB3 : Hid (Below w1.heap.size w1 w3) := HB2.out.trans (HO0.out.below HG3.out HB2.out.size))
   go_roundg (gk - 1)
   case measure => omega
   case rel => exact ⟨i + 1, _, _, _, by omega, by go_num, rfl, by rw [HS.out, ← hn3]; rw [← Cv] at HO3; exact HO3, HB3⟩
  ·have HT : Hid (Lo.take i = Lo) := by show _ = _; rw [List.take_of_length_le (by have := HNl.out; omega)]
   rw [HT.out] at HO
   go_wp2
   go_ret
   exact ⟨HB1.out.trans (HB.out.mono HB1.out.size), _, _, _, rfl, HO.out.low HB1.out.size⟩
def bkt (x g : Nat) (ks : List BA) (c : Nat) : List BA := ks.filter fun k => decide (hsh x k % 2 ^ g = c % 2 ^ g)
theorem bkt_append (x g : Nat) (a b : List BA) (c : Nat) : bkt x g (a ++ b) c = bkt x g a c ++ bkt x g b c := List.filter_append ..
theorem Dct.bkt_leaf {w : World} {B d x : Nat} {D : Dg} (h : Dct w B d x D) {La Lc : List Lf} {f : Lf} {c : Nat} (e : D.L = La ++ f :: Lc) (h2 : ∀ u ∈ La, isIn u.pt c = false) (h3 : ∀ u ∈ Lc, isIn u.pt c = false) : bkt x D.g (Ae D.es) c = bkt x D.g (Ae f.es) c := by
 have hno : ∀ (M : List Lf), (∀ u ∈ M, u ∈ D.L) → (∀ u ∈ M, isIn u.pt c = false) → bkt x D.g (Ae (esL M)) c = [] := by
  intro M hM hc
  unfold bkt
  rw [List.filter_eq_nil_iff]
  intro k hk hd
  have hd' := of_decide_eq_true hd
  obtain ⟨e, he, rfl⟩ := List.mem_map.1 hk
  obtain ⟨u, hu, he⟩ := List.mem_flatMap.1 he
  have h1 := h.own u (hM u hu) e he
  rw [← isIn_low (h.lef (hM u hu)).1, hd', isIn_low (h.lef (hM u hu)).1, hc u hu] at h1
  cases h1
 unfold Dg.es
 rw [e, Aq, Ax, Aj, Aj, bkt_append, bkt_append, hno La (fun u hu => by rw [e]; simp [hu]) h2, hno Lc (fun u hu => by rw [e]; simp [hu]) h3, List.nil_append, List.append_nil]
theorem Bucket_dict (B d x : Nat) (D : Dg) (c : Nat) (w : World) (hD : Dct w B d x D) (hc : c < 18446744073709551616) :
  Calls Tryz.prog 110 #[ptr d, .int .u64 c] w fun e w' => Below w.heap.size w w' ∧ ∃ a n cp, e = .returned (.slice a n cp) ∧ OwnS w' w.heap.size a n cp (bkt x D.g (Ae D.es) c) := by
 obtain ⟨La, f, Lc, eL, hin, h2, h3⟩ := hD.parts c
 rw [hD.bkt_leaf eL h2 h3]
 have hf : f ∈ D.L := by rw [eL]; simp
 have HD : Hid (Dct w B d x D) := hD
 have HL : Hid (Leaf w B x f) := hD.leaf f hf
 have HDe := fun w hD => Depth_any B d x D w hD
 have hg := hD.shp.le
 have HBu := fun w => Bucket_any c D.g w hc (by omega) (by omega)
 rw [low_dep, dep_nat hg] at HBu
 have HK := fun w hL => keys_any B x f w hL (hD.les hf)
 obtain ⟨hpl, hlt⟩ := hD.place hf hin
 have hp := hD.pow
 have hcp := hD.cpl
 have hrow := OwnP.cell hD.row hpl
 have HSd : Hid (∀ w', Below w.heap.size w w' → w'.cell? ⟨d, 0, none⟩ = some (.int .u64 (x : Nat))) := fun w' hb => (HD.out.keep hb).cseed
 have HLe : Hid ((Ae f.es).length ≤ 1000000) := by have := hD.les hf; show _ ≤ _; rw [List.length_map]; exact this
 have HSz : Hid (∀ k ∈ Ae f.es, k.size ≤ maxLen) := by
  show ∀ k ∈ Ae f.es, k.size ≤ maxLen
  intro k hk
  obtain ⟨e, he, rfl⟩ := List.mem_map.1 hk
  obtain ⟨t, ht, he⟩ := List.mem_flatMap.1 he
  exact (HL.out.tab t ht).siz e he
 have hx := hD.seed
 have HLow := fun h w (hh : h < 18446744073709551616) => Low_any h D.g w hh (by omega) (by omega)
 generalize Ae f.es = ks at HK HLe HSz ⊢
 have HBk : Hid (∀ i k, ks[i]? = some k → bkt x D.g (ks.take (i + 1)) c = bkt x D.g (ks.take i) c ++ (if hsh x k % 2 ^ D.g = c % 2 ^ D.g then [k] else [])) := by
  intro i k hk
  rw [B3 hk, bkt_append]
  congr 1
  unfold bkt
  by_cases e : hsh x k % 2 ^ D.g = c % 2 ^ D.g
  ·rw [if_pos e, List.filter_cons_of_pos (by simpa using e)]; rfl
  ·rw [if_neg e, List.filter_cons_of_neg (by simpa using e)]; rfl
 have HOd := fun h => low_dep h D.g
 rw [dep_nat hg] at HOd
 simp only [HOd] at HLow
 clear HOd
 obtain ⟨g, hgg⟩ : ∃ g, D.g = g := ⟨_, rfl⟩
 rw [hgg] at hg HBu hpl hlt hp hcp hrow HLow HBk ⊢
 generalize f.a = fa at HK hrow
 have hmod : ∀ h, h % 2 ^ g < 65536 := fun h => Nat.lt_of_lt_of_le (Nat.mod_lt _ (pow_pos _)) hp
 obtain ⟨pl, hplc⟩ : ∃ pl, c % 2 ^ g = pl := ⟨_, rfl⟩
 rw [hplc] at HBu hlt hrow HBk
 have HPL : Hid (c % 2 ^ g = pl) := hplc
 obtain ⟨P, hP⟩ : ∃ P, 2 ^ g = P := ⟨_, rfl⟩
 rw [hP] at hlt hcp hp
 have hplz : (pl : Int) < P := by omega
 have HDe2 : ∀ w, Dct w B d x D → Calls Tryz.prog 112 #[ptr d] w fun e w' => e = .returned (.int .i64 (g : Nat)) ∧ w' = w := fun w hD => by rw [← hgg]; exact HDe w hD
 clear HDe hgg hD hpl hin h2 h3 eL hf hplc hP
 go_enter Tryz.func110, Tryz.ntmps110
 go_wp2_with fail
 refine (HDe2 _ HD.out).mono ?_
 rintro e w ⟨rfl, rfl⟩
 go_wp2_with fail
 refine (HBu _).mono ?_
 rintro e w ⟨rfl, rfl⟩
 go_wp2_with fail
 refine (HK _ HL.out).mono ?_
 rintro e w1 ⟨hb1, ak, nk, ck, rfl, hO1⟩
 have HB1 : Hid (Below w.heap.size w w1) := hb1
 have HOk : Hid (OwnS w1 w.heap.size ak nk ck ks) := hO1
 have HNk : Hid (ks.length = nk) := OwnS.len hO1
 have hnk : nk ≤ 1000000 := by have := HNk.out; have := HLe.out; omega
 have HO : Hid (OwnS w1 w1.heap.size none 0 0 (bkt x g (ks.take 0) c)) := OwnR.nil _ _ _ _
 clear hb1 hO1 HK HDe2 HBu hcp hrow
 go_wp2
 go_loopg [7, 9, 24] nk (fun q sv kv iv wr => ∃ (i : Nat) (a : Option Addr) (n cp : Nat), i + q = nk ∧ iv = .int .i64 i ∧ sv = .slice a n cp ∧ Hid (OwnS wr w1.heap.size a n cp (bkt x g (ks.take i) c)) ∧ Hid (Below w1.heap.size w1 wr))
 case atStart => exact ⟨0, none, 0, 0, by omega, rfl, rfl, HO, Below.refl _ _⟩
 case round =>
  clear HO
  obtain ⟨i, a, n, cp, hi, rfl, rfl, HO, HB⟩ := hrel
  by_cases h8 : (i : Int) < nk
  ·obtain ⟨k, hk, hkm⟩ := A6 (l := ks) (i := i) (by have := HNk.out; omega)
   obtain ⟨gk', hgk, hcell⟩ := OwnS.cell (OwnR.keep HOk.out HB.out) (j := i) (by omega)
   subst hgk
   rw [List.getD_eq_getElem?_getD, hk] at hcell
   simp only [Option.getD_some] at hcell
   have hsd := HSd.out wr (HB1.out.trans (HB.out.mono HB1.out.size))
   have hOf := fun w => Of_hsh x k w (HSz.out k hkm) hx
   have hLw := fun w => HLow (hsh x k) w (Cp x k)
   have hmd := hmod (hsh x k)
   have HS := HBk.out i k hk
   have HN1 : Hid (n + 1 ≤ 2000000) := by
    have h1 := OwnS.len HO.out
    have h2 : (bkt x g (ks.take i) c).length ≤ (ks.take i).length := List.length_filter_le _ _
    rw [List.length_take] at h2
    show _ ≤ _
    omega
   generalize hsh x k = h at hOf hLw hmd HS
   have hsz := HB.out.size
   clear hk hkm
   by_cases e : h % 2 ^ g = pl
   ·rw [if_pos e] at HS
    have HS1 : Hid (bkt x g (ks.take (i + 1)) c = bkt x g (ks.take i) c ++ [k]) := HS
    rw [e] at hLw
    clear HS e hmd
    go_wp2_with fail
    refine (hOf _).mono ?_
    rintro e wr ⟨rfl, rfl⟩
    go_wp2_with fail
    refine (hLw _).mono ?_
    rintro e wr ⟨rfl, rfl⟩
    go_wp2_with (at_builtin; refine append_r rfl (.tmp 38) (.tmp 40) rfl eltS w1.heap.size rfl (OwnR.keep HO.out (Ac wr _)) [.string k] rfl rfl (by intro j u hu; cases j with | zero => (rw [Af]; simp only [World.cell?, heap_alloc_new]; exact hu) | succ j => simp at hu) (by simp [Value.oneCell']) (by decide) (by have := HN1.out; omega) (by have := HN1.out; unfold maxLen; omega) (Nat.le_trans hsz (Ac wr _).size) ?_; intro a3 n3 c3 w3 hn3 HO3 HG3 HW3; have HB3 : Hid (Below w1.heap.size w1 w3) := (HB.out.trans ((Ac wr _).mono hsz)).trans ((OwnR.keep HO.out (Ac wr _)).below HG3.out (Nat.le_trans hsz (Ac wr _).size)))
    go_roundg (gk - 1)
    case measure => omega
    case rel => exact ⟨i + 1, _, _, _, by omega, by go_num, rfl, by rw [HS1.out, ← hn3]; rw [show By (bkt x g (ks.take i) c) ++ [.string k] = By (bkt x g (ks.take i) c ++ [k]) by rw [Cv]; rfl] at HO3; exact HO3, HB3⟩
   ·rw [if_neg e, List.append_nil] at HS
    have HS1 : Hid (bkt x g (ks.take (i + 1)) c = bkt x g (ks.take i) c) := HS
    generalize h % 2 ^ g = y at hLw e hmd
    have hne : ((y : Int) == (pl : Int)) = false := by simp; omega
    clear HS e
    go_wp2_with fail
    refine (hOf _).mono ?_
    rintro e wr ⟨rfl, rfl⟩
    go_wp2_with fail
    refine (hLw _).mono ?_
    rintro e wr ⟨rfl, rfl⟩
    go_wp2
    go_roundg (gk - 1)
    case measure => omega
    case rel => exact ⟨i + 1, _, _, _, by omega, by go_num, rfl, by rw [HS1.out]; exact HO, HB⟩
  ·have HT : Hid (ks.take i = ks) := by show _ = _; rw [List.take_of_length_le (by have := HNk.out; omega)]
   rw [HT.out] at HO
   go_wp2
   go_ret
   exact ⟨HB1.out.trans (HB.out.mono HB1.out.size), _, _, _, rfl, HO.out.low HB1.out.size⟩
def scanP (x g : Nat) (ks : List BA) (cnt : Nat) : Nat → List BA → Nat → List BA × Nat
 | 0, acc, c => (acc, c)
 | n + 1, acc, c => if nxt g c = 0 ∨ cnt ≤ (acc ++ bkt x g ks c).length then (acc ++ bkt x g ks c, nxt g c) else scanP x g ks cnt n (acc ++ bkt x g ks c) (nxt g c)
def cntC (n : Int) : Nat := if n < 1 then 1 else if 1000 < n then 1000 else n.toNat
theorem cntC_le (n : Int) : 1 ≤ cntC n ∧ cntC n ≤ 1000 := by
 unfold cntC
 split
 ·omega
 ·split <;> omega
theorem cntC_cases (n : Int) : (n < 1 ∧ cntC n = 1) ∨ (1000 < n ∧ cntC n = 1000) ∨ (1 ≤ n ∧ n ≤ 1000 ∧ n = (cntC n : Nat)) := by
 unfold cntC
 split
 ·exact .inl ⟨by assumption, rfl⟩
 ·split
  ·exact .inr (.inl ⟨by assumption, rfl⟩)
  ·exact .inr (.inr ⟨by omega, by omega, by omega⟩)
theorem bkt_le (x g : Nat) (ks : List BA) (c : Nat) : (bkt x g ks c).length ≤ ks.length := List.length_filter_le _ _
theorem scan_loop (B d x : Nat) (D : Dg) (c0 cc : Nat) (count : Int) (w : World) (hD : Dct w B d x D) (hc : c0 < 18446744073709551616) (hcc : 1 ≤ cc ∧ cc ≤ 1000) (hcs : (count < 1 ∧ cc = 1) ∨ (1000 < count ∧ cc = 1000) ∨ (1 ≤ count ∧ count ≤ 1000 ∧ count = (cc : Nat))) :
  Calls Tryz.prog 74 #[ptr d, .int .u64 c0, .int .i64 count] w fun e w' => Below w.heap.size w w' ∧ ∃ a n cp, e = .returned (.tuple #[.slice a n cp, .int .u64 ((scanP x D.g (Ae D.es) cc (10 * cc) [] c0).2 : Nat)]) ∧ OwnS w' w.heap.size a n cp (scanP x D.g (Ae D.es) cc (10 * cc) [] c0).1 := by
 have HD : Hid (Dct w B d x D) := hD
 have hg := hD.shp.le
 have HDe : ∀ w, Dct w B d x D → Calls Tryz.prog 112 #[ptr d] w fun e w' => e = .returned (.int .i64 (D.g : Nat)) ∧ w' = w := fun w hD => Depth_any B d x D w hD
 have HBu := fun c w hD (hc : c < 18446744073709551616) => Bucket_dict B d x D c w hD hc
 have HNx := fun c w (hc : c < 18446744073709551616) => Next_any c D.g w hc (by omega) (by omega)
 rw [dep_nat hg] at HNx
 have HLe : Hid ((Ae D.es).length ≤ 1000000) := by have := hD.le; show _ ≤ _; rw [List.length_map]; exact this
 have HNl : Hid (∀ c, nxt D.g c < 18446744073709551616) := fun c => by have h1 := nxt_lt D.g c; have h2 := hD.pow; omega
 generalize hR : scanP x D.g (Ae D.es) cc (10 * cc) [] c0 = R
 have HR : Hid (scanP x D.g (Ae D.es) cc (10 * cc) [] c0 = R) := hR
 generalize Ae D.es = ks at HBu HLe HR
 generalize D.g = g at hg HDe HBu HNx HNl HR
 clear hD hR
 have HO : Hid (OwnS w w.heap.size none 0 0 []) := OwnR.nil _ _ _ _
 obtain ⟨hc1, hc2⟩ := hcc
 have hccz : (1 : Int) ≤ cc := by omega
 have hccy : (cc : Int) ≤ 1000 := by omega
 go_enter Tryz.func74, Tryz.ntmps74
 go_upto_region 1 with fail
 go_cut [2] from 9 to 11 (fun v wx => w = wx ∧ v = .int .i64 cc)
 case first =>
  clear HDe HBu HNx HLe HNl HR HO
  rcases hcs with ⟨h1, h2⟩ | ⟨h1, h2⟩ | ⟨h1, h1', h2⟩
  ·subst h2
   go_wp2
   go_meet
   exact ⟨rfl, rfl⟩
  ·subst h2
   go_wp2
   go_meet
   exact ⟨rfl, rfl⟩
  ·subst h2
   go_wp2
   go_meet
   exact ⟨rfl, rfl⟩
 case rest =>
 obtain ⟨rfl, rfl⟩ := hcut
 clear hcs
 have HR0 : Hid (scanP x g ks cc (10 * cc) [] c0 = R) := HR
 obtain ⟨M, hM⟩ : ∃ M, 10 * cc = M := ⟨_, rfl⟩
 have hMz : 10 * (cc : Int) = (M : Nat) := by omega
 have hM4 : M ≤ 10000 := by omega
 rw [hM] at HR0
 clear HR hM
 go_wp2
 go_loopg [1, 8, 14] M (fun q cv sv iv wr => ∃ (i c n cp : Nat) (a : Option Addr) (acc : List BA), i + q = M ∧ iv = .int .i64 i ∧ cv = .int .u64 c ∧ c < 18446744073709551616 ∧ sv = .slice a n cp ∧ n < 1000 ∧ Hid (OwnS wr w.heap.size a n cp acc) ∧ Hid (Below w.heap.size w wr) ∧ Hid (scanP x g ks cc q acc c = R))
 case atStart => exact ⟨0, c0, 0, 0, none, [], by omega, rfl, rfl, hc, rfl, by omega, HO, Below.refl _ _, HR0⟩
 case round =>
  clear HO HR0
  obtain ⟨i, c, n, cp, a, acc, hi, rfl, rfl, hc, rfl, hn, HO, HB, HR⟩ := hrel
  by_cases h8 : (i : Int) < M
  ·obtain ⟨q, rfl⟩ : ∃ q, gk = q + 1 := ⟨gk - 1, by omega⟩
   have hB := HBu c wr (HD.out.keep HB.out) hc
   have HB0 : Hid ((bkt x g ks c).length ≤ 1000000) := Nat.le_trans (bkt_le x g ks c) HLe.out
   have hNx := fun w => HNx c w hc
   have hnl := HNl.out c
   have HRu : Hid ((if nxt g c = 0 ∨ cc ≤ (acc ++ bkt x g ks c).length then (acc ++ bkt x g ks c, nxt g c) else scanP x g ks cc q (acc ++ bkt x g ks c) (nxt g c)) = R) := HR.out
   generalize bkt x g ks c = bk at hB HB0 HRu
   generalize nxt g c = c1 at hNx hnl HRu
   clear HBu HNx HR
   go_wp2_with fail
   refine hB.mono ?_
   rintro e w1 ⟨hb1, a1, n1, cp1, rfl, hO1⟩
   have HO1 : Hid (OwnS w1 wr.heap.size a1 n1 cp1 bk) := hO1
   have HB1 := Ad HB hb1
   have HO0 : Hid (OwnS w1 w.heap.size a n cp acc) := OwnR.keep HO.out hb1
   have HN1 : Hid (n + n1 ≤ 2000000) := by
    have h2 := OwnS.len hO1
    have h3 := HB0.out
    show _ ≤ _
    omega
   clear hb1 hO1 hB HO HB
   go_wp2_with (at_builtin; refine append_p rfl (.tmp 16) (.tmp 19) rfl eltS w.heap.size rfl HO0.out rfl HO1.out.rd scells_one (by have := HN1.out; omega) (by have := HN1.out; unfold maxLen; omega) HB1.out.size ?_; intro a3 n3 c3 w3 hn3 HO3 HG3; have HB3 : Hid (Below w.heap.size w w3) := HB1.out.trans (HO0.out.below HG3.out HB1.out.size))
   refine (HDe _ (HD.out.keep HB3.out)).mono ?_
   rintro e w3 ⟨rfl, rfl⟩
   go_wp2_with fail
   refine (hNx _).mono ?_
   rintro e w3 ⟨rfl, rfl⟩
   rw [← Cv] at HO3
   have HL3 : Hid ((acc ++ bk).length = n + n1) := by have := OwnS.len HO3.out; show _ = _; omega
   rw [hn3] at HO3
   have hnn : n + n1 ≤ 2000000 := HN1.out
   clear HO0 HO1 HB1 HG3 hNx HDe HN1 hn3
   by_cases h1 : c1 = 0
   ·have HE : Hid ((acc ++ bk, c1) = R) := by have := HRu.out; rw [if_pos (.inl h1)] at this; exact this
    clear HRu
    subst h1
    go_wp2
    go_ret2
    refine ⟨HB3.out, a3, n + n1, c3, ?_, ?_⟩
    ·rw [← HE.out]; rfl
    ·rw [← HE.out]; exact HO3.out
   ·have hz : ((c1 : Int) == 0) = false := by simp; omega
    by_cases h2 : cc ≤ n + n1
    ·have HE : Hid ((acc ++ bk, c1) = R) := by have := HRu.out; rw [if_pos (.inr (by rw [HL3.out]; exact h2))] at this; exact this
     clear HRu
     have h2z : (cc : Int) ≤ (n : Int) + n1 := by omega
     clear h1 h2
     go_wp2
     go_ret2
     refine ⟨HB3.out, a3, n + n1, c3, ?_, ?_⟩
     ·rw [← HE.out]; rfl
     ·rw [← HE.out]; exact HO3.out
    ·have HE : Hid (scanP x g ks cc q (acc ++ bk) c1 = R) := by have := HRu.out; rw [if_neg (by rw [HL3.out]; omega)] at this; exact this
     clear HRu
     have h2z : decide ((cc : Int) ≤ (n : Int) + n1) = false := decide_eq_false (by omega)
     have h3 : n + n1 < 1000 := by omega
     clear h1 h2
     go_wp2
     go_roundg q
     case measure => omega
     case rel => exact ⟨i + 1, c1, _, c3, a3, acc ++ bk, by omega, by go_num, rfl, hnl, rfl, h3, HO3, HB3, HE⟩
  ·obtain rfl : gk = 0 := by omega
   have HE : Hid ((acc, c) = R) := HR.out
   clear HR HBu HNx HDe
   go_wp2
   go_ret2
   refine ⟨HB.out, a, n, cp, ?_, ?_⟩
   ·rw [← HE.out]; rfl
   ·rw [← HE.out]; exact HO.out
theorem Scan_dict (B d x : Nat) (D : Dg) (c : Nat) (count : Int) (w : World) (hD : Dct w B d x D) (hc : c < 18446744073709551616) :
  Calls Tryz.prog 74 #[ptr d, .int .u64 c, .int .i64 count] w fun e w' => Below w.heap.size w w' ∧ ∃ a n cp, e = .returned (.tuple #[.slice a n cp, .int .u64 ((scanP x D.g (Ae D.es) (cntC count) (10 * cntC count) [] c).2 : Nat)]) ∧ OwnS w' w.heap.size a n cp (scanP x D.g (Ae D.es) (cntC count) (10 * cntC count) [] c).1 :=
 scan_loop B d x D c (cntC count) count w hD hc (cntC_le count) (cntC_cases count)
def pickK (D : Dg) (n : Nat) : BA := (Ae (esL (ordU D.L (2 ^ D.g)))).getD (n % D.es.length) ⟨#[]⟩
theorem Pick_none (B d x : Nat) (D : Dg) (n : Nat) (w : World) (hD : Dct w B d x D) (h0 : D.es.length = 0) :
  Calls Tryz.prog 144 #[ptr d, .int .u64 n] w fun e w' => e = .returned (.tuple #[.string ⟨#[]⟩, .bool false]) ∧ w' = w := by
 have hc := hD.ccnt
 rw [h0] at hc
 replace hc : w.cell? ⟨d, 1, none⟩ = some (.int .i64 0) := hc
 clear hD h0
 go_enter Tryz.func144, Tryz.ntmps144
 go_wp2
 go_ret2
 exact ⟨rfl, rfl⟩
theorem Pick_some (B d x : Nat) (D : Dg) (n : Nat) (w : World) (hD : Dct w B d x D) (h0 : 0 < D.es.length) (hn : n < 18446744073709551616) :
  Calls Tryz.prog 144 #[ptr d, .int .u64 n] w fun e w' => e = .returned (.tuple #[.string (pickK D n), .bool true]) ∧ Below w.heap.size w w' := by
 have HD : Hid (Dct w B d x D) := hD
 have hc := hD.ccnt
 have hLs := leaves_any B d x D w hD
 have HPm : Hid ((ordU D.L (2 ^ D.g)).Perm D.L) := hD.ord_perm
 have HOL := ordU_le D.L (2 ^ D.g)
 have hpw := hD.pow
 have hle := hD.le
 have HTot : Hid ((esL (ordU D.L (2 ^ D.g))).length = D.es.length) := (HPm.out.flatMap_right Lf.es).length_eq
 have HK : Hid (pickK D n = (Ae (esL (ordU D.L (2 ^ D.g)))).getD (n % D.es.length) ⟨#[]⟩) := rfl
 generalize pickK D n = k at HK ⊢
 generalize ordU D.L (2 ^ D.g) = Lo at hLs HPm HTot HOL HK
 generalize hct : D.es.length = ct at hc h0 hle HTot HK
 have hmt : n % ct < ct := Nat.mod_lt _ h0
 have hmz : (n : Int) % (ct : Int) = ((n % ct : Nat) : Int) := by simp
 generalize n % ct = m at hmt hmz HK
 have hcz : ((ct : Int) == 0) = false := by simp; omega
 clear hD hct
 go_enter Tryz.func144, Tryz.ntmps144
 go_wp2_with fail
 refine hLs.mono ?_
 rintro e w1 ⟨hb1, al, nl, cl, rfl, hO1⟩
 have HB1 : Hid (Below w.heap.size w w1) := hb1
 have HOl : Hid (OwnP w1 w.heap.size 123 al nl cl (Lo.map Lf.a)) := hO1
 have HNl : Hid (Lo.length = nl) := by have := OwnP.len hO1; rw [List.length_map] at this; exact this
 have hnl : nl ≤ 65536 := by have := HNl.out; omega
 clear hb1 hO1 hLs HOL hpw hc hmz hcz
 go_wp2
 go_loopg [6, 8, 9, 26] nl (fun q av lv sv iv wr => ∃ i ah : Nat, i + q = nl ∧ iv = .int .i64 i ∧ av = .int .i64 ah ∧ Hid (ah + (esL (Lo.take i)).length = m) ∧ Hid (Below w1.heap.size w1 wr))
 case atStart => exact ⟨0, m, by omega, rfl, rfl, (by simp [esL] : m + (esL (Lo.take 0)).length = m), Below.refl _ _⟩
 case round =>
  obtain ⟨i, ah, hi, rfl, rfl, HA, HB⟩ := hrel
  by_cases h8 : (i : Int) < nl
  ·obtain ⟨f, hf, hfm⟩ := A6 (l := Lo) (i := i) (by have := HNl.out; omega)
   have hfD : f ∈ D.L := HPm.out.mem_iff.1 hfm
   have hDr := HD.out.keep (HB1.out.trans (HB.out.mono HB1.out.size))
   obtain ⟨gl, rfl, -⟩ := OwnR.at HOl.out (by omega)
   have hcell := OwnP.cell (OwnR.keep HOl.out HB.out) (j := i) (p := f.a) (by rw [List.getElem?_map, hf]; rfl)
   have hSz := size_any B x f wr (hDr.leaf f hfD) (hDr.les hfD)
   have hKy := keys_any B x f wr (hDr.leaf f hfD) (hDr.les hfD)
   have HS : Hid ((esL (Lo.take (i + 1))).length = (esL (Lo.take i)).length + f.es.length) := by show _ = _; rw [B3 hf, Aq, List.length_append, esL_one]
   have hfl := hDr.les hfD
   have hah : ah ≤ 1000000 := by have := HA.out; omega
   have HKy : Hid (ah < f.es.length → k = (Ae f.es).getD ah ⟨#[]⟩) := by
    intro hlt
    have h1 : Lo = Lo.take i ++ f :: Lo.drop (i + 1) := get_parts hf
    have h2 : Ae (esL Lo) = Ae (esL (Lo.take i)) ++ (Ae f.es ++ Ae (esL (Lo.drop (i + 1)))) := by
     conv => lhs; rw [h1, Aq, Ax, Aj, Aj]
    have h3 := HA.out
    rw [HK.out, h2, List.getD_eq_getElem?_getD, List.getD_eq_getElem?_getD, List.getElem?_append_right (by rw [List.length_map]; omega), List.length_map, show m - (esL (Lo.take i)).length = ah by omega, List.getElem?_append_left (by rw [List.length_map]; exact hlt)]
   have HKl : Hid ((Ae f.es).length = f.es.length) := List.length_map ..
   generalize Ae f.es = ks at hKy HKy HKl
   generalize hfe : f.es.length = fl at hSz HS hfl HKy HKl
   generalize f.a = fa at hcell hSz hKy
   clear hf hfm hfD hDr hfe
   go_wp2_with fail
   refine hSz.mono ?_
   rintro e wr ⟨rfl, rfl⟩
   by_cases h9 : (fl : Int) ≤ ah
   ·have HA1 : Hid (ah - fl + (esL (Lo.take (i + 1))).length = m) := by have := HA.out; have := HS.out; show _ = _; omega
    obtain ⟨ah2, ha2⟩ : ∃ ah2, ah - fl = ah2 := ⟨_, rfl⟩
    have haz : (ah : Int) - fl = (ah2 : Nat) := by omega
    rw [ha2] at HA1
    clear hKy HKy hSz ha2
    go_wp2
    go_roundg (gk - 1)
    case measure => omega
    case rel => exact ⟨i + 1, ah2, by omega, by go_num, rfl, HA1, HB⟩
   ·have h9d : decide ((fl : Int) ≤ ah) = false := decide_eq_false h9
    have HE := HKy.out (by omega)
    have HKE : Hid (k = ks.getD ah ⟨#[]⟩) := HE
    clear HKy HE hSz
    go_wp2_with fail
    refine hKy.mono ?_
    rintro e w2 ⟨hb2, a2, n2, c2, rfl, hO2⟩
    have HB2 := Ad HB hb2
    have hn2 : (ah : Int) < n2 := by have := OwnS.len hO2; have := HKl.out; omega
    obtain ⟨g2, rfl, hc2⟩ := OwnS.cell hO2 (j := ah) (by omega)
    have HBw : Hid (Below w.heap.size w w2) := HB1.out.trans (HB2.out.mono HB1.out.size)
    rw [← HKE.out] at hc2
    clear hb2 hO2 hKy HB2
    go_wp2
    go_ret2
    exact ⟨rfl, HBw.out⟩
  ·exact absurd HA.out (by have h1 := HTot.out; rw [List.take_of_length_le (by have := HNl.out; omega), h1]; omega)
def Dg.fp (D : Dg) (d : Nat) : List Nat := d :: D.pb :: fpL D.L
structure Turn (w w' : World) (B d x : Nat) (D D' : Dg) : Prop where
 dct : Dct w' B d x D'
 stay : Stay w w' (D.fp d)
 fps : ∀ j ∈ D'.fp d, j ∈ D.fp d ∨ w.heap.size ≤ j
theorem Turn.first {w w0 w' : World} {B d x : Nat} {D D' : Dg} (h : Turn w w' B d x D D') (hb : Below w0.heap.size w0 w) : Turn w0 w' B d x D D' :=
 ⟨h.dct, (Stay.of_below hb _).trans h.stay (fun _ hi => .inl hi), fun j hj => (h.fps j hj).imp id (fun k => Nat.le_trans hb.size k)⟩
theorem Turn.trans {w w1 w2 : World} {B d x : Nat} {D D1 D2 : Dg} (h : Turn w w1 B d x D D1) (k : Turn w1 w2 B d x D1 D2) : Turn w w2 B d x D D2 :=
 ⟨k.dct, h.stay.trans k.stay (fun i hi => h.fps i hi), fun j hj => (k.fps j hj).elim (h.fps j) (fun e => .inr (Nat.le_trans h.stay.size e))⟩
theorem Turn.below {w w' : World} {B d x : Nat} {D D' : Dg} (h : Turn w w' B d x D D') (hD : Dct w B d x D) : Below B w w' :=
 h.stay.below (fun i hi => (hD.fplt i hi).1) (by have := hD.low; have := hD.lt; omega)
theorem Turn.refl {w w' : World} {B d x : Nat} {D : Dg} (h : Dct w B d x D) (hb : Below w.heap.size w w') : Turn w w' B d x D D := ⟨h.keep hb, Stay.of_below hb _, fun _ hj => .inl hj⟩
theorem Dct.turn {w w' w'' : World} {B d x : Nat} {D : Dg} {La Lc : List Lf} {f f' : Lf} (h : Dct w B d x D) (e : D.L = La ++ f :: Lc) (hG : Grew w w' B x f f')
  (hb : w''.heap[d]? = some (.cells #[.int .u64 (x : Nat), .int .i64 ((esL (La ++ f' :: Lc)).length : Nat), .slice (some ⟨D.pb, 0, none⟩) (2 ^ D.g) D.cap] 129 (0, 0))) (hs : Stay w' w'' [d])
  (hown : ∀ e ∈ f'.es, isIn f.pt (hsh x e.1) = true) (hone : f.l < 16 → f'.ts.length = 1) (hful : Ful f') (hle : (esL (La ++ f' :: Lc)).length ≤ 1000000) :
  Turn w w'' B d x D { D with L := La ++ f' :: Lc } := by
 have hpt : f'.pt = f.pt := by unfold Lf.pt; rw [hG.l, hG.q]
 have hnod := h.nod
 rw [e, Bg, Bw] at hnod
 have hlt := h.fplt
 rw [e, Bg, Bw] at hlt
 obtain ⟨n1, n2⟩ := List.nodup_cons.1 hnod
 obtain ⟨n3, n4⟩ := List.nodup_cons.1 n2
 rw [List.nodup_append, List.nodup_append] at n4
 obtain ⟨n5, ⟨n6, n7, n8⟩, n9⟩ := n4
 simp only [List.mem_cons, List.mem_append, not_or] at n1 n3
 have hd' : ∀ k ∈ f'.fp, k ≠ d := fun k hk e => by
  subst e
  rcases hG.fps k hk with h1 | h1
  ·exact n1.2.2.1 h1
  ·have := h.lt; omega
 have hp' : ∀ k ∈ f'.fp, k ≠ D.pb := fun k hk e => by
  subst e
  rcases hG.fps _ hk with h1 | h1
  ·exact n3.2.1 h1
  ·have := hlt D.pb (by simp); omega
 have hS : Stay w w'' (d :: f.fp) := (hG.stay.mono (fun i hi => List.mem_cons_of_mem _ hi)).trans (hs.mono (M' := [d]) (fun i hi => hi)) (fun i hi => .inl (by simp at hi; simp [hi]))
 have hleafs : ∀ u ∈ La ++ f' :: Lc, Leaf w'' B x u := by
  intro u hu
  rcases List.mem_append.1 hu with hu | hu
  ·refine (h.leaf u (by rw [e]; simp [hu])).stay hS (fun k hk => ?_)
   simp only [List.mem_cons, not_or]
   exact ⟨fun e => n1.2.1 (e ▸ B5 hu hk), fun hk2 => n9 k (B5 hu hk) k (by simp [hk2]) rfl⟩
  ·rcases List.mem_cons.1 hu with rfl | hu
   ·exact hG.leaf.stay hs (fun k hk => by simpa using hd' k hk)
   ·refine (h.leaf u (by rw [e]; simp [hu])).stay hS (fun k hk => ?_)
    simp only [List.mem_cons, not_or]
    exact ⟨fun e => n1.2.2.2 (e ▸ B5 hu hk), fun hk2 => n8 k hk2 k (B5 hu hk) rfl⟩
 refine ⟨⟨hb, ?_, hleafs, ?_, ?_, ?_, ?_, ?_, ?_, h.low, h.seed, hle⟩, ?_, ?_⟩
 ·refine OwnR.stay h.row hS (fun k hk => ?_)
  cases hk
  simp only [List.mem_cons, not_or]
  exact ⟨fun e => n1.1 e.symm, n3.2.1⟩
 ·show Shp D.g (shL (La ++ f' :: Lc))
  have := h.shp
  unfold Dg.sh shL at this
  rw [e, List.map_append, List.map_cons] at this
  unfold shL
  rw [List.map_append, List.map_cons, hpt]
  exact this
 ·intro u hu i hi hin
  rcases List.mem_append.1 hu with hu | hu
  ·exact h.dir u (by rw [e]; simp [hu]) i hi hin
  ·rcases List.mem_cons.1 hu with rfl | hu
   ·rw [hG.a]
    rw [hpt] at hin
    exact h.dir f (by rw [e]; simp) i hi hin
   ·exact h.dir u (by rw [e]; simp [hu]) i hi hin
 ·intro u hu
  rcases List.mem_append.1 hu with hu | hu
  ·exact h.own u (by rw [e]; simp [hu])
  ·rcases List.mem_cons.1 hu with rfl | hu
   ·rw [hpt]; exact hown
   ·exact h.own u (by rw [e]; simp [hu])
 ·intro u hu
  rcases List.mem_append.1 hu with hu | hu
  ·exact h.one u (by rw [e]; simp [hu])
  ·rcases List.mem_cons.1 hu with rfl | hu
   ·rw [hG.l]; exact hone
   ·exact h.one u (by rw [e]; simp [hu])
 ·intro u hu
  rcases List.mem_append.1 hu with hu | hu
  ·exact h.ful u (by rw [e]; simp [hu])
  ·rcases List.mem_cons.1 hu with rfl | hu
   ·exact hful
   ·exact h.ful u (by rw [e]; simp [hu])
 ·show (d :: D.pb :: fpL (La ++ f' :: Lc)).Nodup
  rw [Bg, Bw, List.nodup_cons, List.nodup_cons, List.nodup_append, List.nodup_append]
  refine ⟨?_, ?_, n5, ⟨hG.leaf.nod, n7, ?_⟩, ?_⟩
  ·simp only [List.mem_cons, List.mem_append, not_or]
   exact ⟨n1.1, n1.2.1, fun hk => hd' d hk rfl, n1.2.2.2⟩
  ·simp only [List.mem_append, not_or]
   exact ⟨n3.1, fun hk => hp' _ hk rfl, n3.2.2⟩
  ·intro a ha b hb2 e2
   subst e2
   rcases hG.fps a ha with h1 | h1
   ·exact n8 a h1 a hb2 rfl
   ·have := hlt a (by simp [hb2]); omega
  ·intro a ha b hb2 e2
   subst e2
   rcases List.mem_append.1 hb2 with hb2 | hb2
   ·rcases hG.fps a hb2 with h1 | h1
    ·exact n9 a ha a (by simp [h1]) rfl
    ·have := hlt a (by simp [ha]); omega
   ·exact n9 a ha a (by simp [hb2]) rfl
 ·refine hS.mono (fun i hi => ?_)
  unfold Dg.fp
  rw [e, Bg, Bw]
  rcases List.mem_cons.1 hi with rfl | hi
  ·simp
  ·simp [hi]
 ·intro j hj
  change j ∈ d :: D.pb :: fpL (La ++ f' :: Lc) at hj
  unfold Dg.fp
  rw [e]
  rw [Bg, Bw] at hj ⊢
  simp only [List.mem_cons, List.mem_append] at hj ⊢
  rcases hj with hj | hj | hj | hj | hj
  ·exact .inl (.inl hj)
  ·exact .inl (.inr (.inl hj))
  ·exact .inl (.inr (.inr (.inl hj)))
  ·exact (hG.fps j hj).imp (fun h1 => .inr (.inr (.inr (.inl h1)))) id
  ·exact .inl (.inr (.inr (.inr (.inr hj))))
theorem Leaf.made {w1 w2 : World} {B x l a p b G : Nat} {z : List Cl} (q : Nat) (hT : Tab w1 B p b x G z) (hb : Below w1.heap.size w1 w2) (ha : w1.heap.size < a)
  (hblk : w2.heap[a]? = some (.cells #[.int .i64 (l : Nat), .slice (some ⟨w1.heap.size, 0, none⟩) 1 1] 178 (0, 0))) (hrow : OwnP w2 w1.heap.size 125 (some ⟨w1.heap.size, 0, none⟩) 1 1 [p]) (hB : B ≤ w1.heap.size) :
  Leaf w2 B x ⟨l, q, a, w1.heap.size, 1, [⟨p, b, G, z⟩]⟩ := by
 have h1 := hT.top.lt
 have h2 := hT.row.lt
 have h3 := hT.top.ne hT.row
 refine ⟨hblk, OwnR.low hrow hB, ?_, by show B ≤ a; omega, ?_, ?_, Nat.one_pos⟩
 ·intro t ht
  cases List.mem_singleton.1 ht
  exact hT.keep hb
 ·show [a, w1.heap.size, p, b].Nodup
  simp only [List.nodup_cons, List.mem_cons, List.not_mem_nil, or_false, not_or, not_false_eq_true, List.nodup_nil, and_true]
  omega
 ·show (Ae (tsEs [(⟨p, b, G, z⟩ : Tb)])).Nodup
  rw [Bv]
  exact hT.inv.nod
theorem New_dict (x : Nat) (w : World) (hx : x < 18446744073709551616) :
  Calls Tryz.prog 34 #[.int .u64 x] w fun e w' => Below w.heap.size w w' ∧ ∃ d D, e = .returned (ptr d) ∧ Dct w' w.heap.size d x D ∧ D.g = 0 ∧ D.sh = [(0, 0)] ∧ D.es = [] := by
 have HN := New_tab x w hx
 have HX : Hid (x < 18446744073709551616) := hx
 clear hx
 go_enter Tryz.func34, Tryz.ntmps34
 go_wp2_with fail
 refine HN.mono ?_
 rintro e w1 ⟨hb1, p, b, rfl, hT1, -⟩
 have HB1 : Hid (Below w.heap.size w w1) := hb1
 have HT1 : Hid (Tab w1 w.heap.size p b x 1 (Be 1)) := hT1
 have hL := newLeaf_any 0 p w1
 clear hb1 hT1 HN
 go_wp2_with fail
 refine hL.mono ?_
 rintro e w2 ⟨hb2, a, rfl, ha, hal, hblk, hrow⟩
 have HB2 := Ad HB1 hb2
 have HL2 : Hid (Leaf w2 w.heap.size x ⟨0, 0, a, w1.heap.size, 1, [⟨p, b, 1, Be 1⟩]⟩) := Leaf.made 0 HT1.out hb2 ha hblk hrow HB1.out.size
 clear hb2 ha hal hblk hrow hL
 obtain ⟨w3, hw3⟩ : ∃ w3, w2.alloc (.cells #[ptr a] 123) = w3 := ⟨_, rfl⟩
 have HB3' : Hid (Below w2.heap.size w2 w3) := by show Below _ _ _; rw [← hw3]; exact Ac w2 _
 have HS3 : Hid (w3.heap.size = w2.heap.size + 1) := by show _ = _; rw [← hw3]; exact size_alloc w2 _
 have HO3 : Hid (OwnP w3 w2.heap.size 123 (some ⟨w2.heap.size, 0, none⟩) 1 1 [a]) := by
  show OwnP _ _ _ _ _ _ _
  rw [← hw3]
  exact ⟨rfl, .inr ⟨w2.heap.size, 1, #[ptr a], rfl, Nat.le_refl _, heap_alloc_new w2 _, Nat.le_refl _, by decide, rfl, rfl⟩⟩
 obtain ⟨w4, hw4⟩ : ∃ w4, w3.alloc (.cells #[.int .u64 (x : Nat), .int .i64 0, .slice (some ⟨w2.heap.size, 0, none⟩) 1 1] 129) = w4 := ⟨_, rfl⟩
 have HB4' : Hid (Below w3.heap.size w3 w4) := by show Below _ _ _; rw [← hw4]; exact Ac w3 _
 have HK4 : Hid (w4.heap[w3.heap.size]? = some (.cells #[.int .u64 (x : Nat), .int .i64 0, .slice (some ⟨w2.heap.size, 0, none⟩) 1 1] 129 (0, 0))) := by show _ = _; rw [← hw4]; exact heap_alloc_new w3 _
 have HB3 := Ad HB2 HB3'.out
 have HB4 := Ad HB3 HB4'.out
 go_wp2
 go_ret
 refine ⟨HB4.out, w3.heap.size, ⟨0, w2.heap.size, 1, [a], [⟨0, 0, a, w1.heap.size, 1, [⟨p, b, 1, Be 1⟩]⟩]⟩, rfl, ?_, rfl, rfl, ?_⟩
 ·have hL4 : Leaf w4 w.heap.size x ⟨0, 0, a, w1.heap.size, 1, [⟨p, b, 1, Be 1⟩]⟩ := (HL2.out.keep HB3'.out).keep HB4'.out
  have hes : esL [(⟨0, 0, a, w1.heap.size, 1, [⟨p, b, 1, Be 1⟩]⟩ : Lf)] = [] := by rw [esL_one]; show tsEs _ = []; rw [Bv]; exact A9 1
  have hfl := HL2.out.fplt
  have hs2 := HB2.out.size
  have hs3 := HS3.out
  refine ⟨?_, OwnR.low (OwnR.keep HO3.out HB4'.out) HB2.out.size, ?_, Shp.new, ?_, ?_, ?_, ?_, ?_, HB3.out.size, HX.out, ?_⟩
  ·show w4.heap[w3.heap.size]? = some (.cells #[.int .u64 (x : Nat), .int .i64 ((esL [(⟨0, 0, a, w1.heap.size, 1, [⟨p, b, 1, Be 1⟩]⟩ : Lf)]).length : Nat), .slice (some ⟨w2.heap.size, 0, none⟩) (2 ^ 0) 1] 129 (0, 0))
   rw [hes]
   exact HK4.out
  ·intro f hf
   cases List.mem_singleton.1 hf
   exact hL4
  ·intro f hf i hi _
   cases List.mem_singleton.1 hf
   obtain rfl : i = 0 := by simp at hi; exact hi
   rfl
  ·intro f hf e he
   have : e ∈ esL [(⟨0, 0, a, w1.heap.size, 1, [⟨p, b, 1, Be 1⟩]⟩ : Lf)] := mem_esL hf he
   rw [hes] at this
   cases this
  ·intro f hf _
   cases List.mem_singleton.1 hf
   rfl
  ·intro f hf
   cases List.mem_singleton.1 hf
   exact .inl rfl
  ·show (w3.heap.size :: w2.heap.size :: fpL [(⟨0, 0, a, w1.heap.size, 1, [⟨p, b, 1, Be 1⟩]⟩ : Lf)]).Nodup
   rw [Bw, List.nodup_cons, List.nodup_cons]
   have e0 : fpL ([] : List Lf) = [] := rfl
   rw [e0, List.append_nil]
   refine ⟨?_, ?_, HL2.out.nod⟩
   ·rw [List.mem_cons, not_or]
    exact ⟨by omega, fun h => by have := (hfl _ h).2; omega⟩
   ·exact fun h => by have := (hfl _ h).2; omega
  ·show (esL _).length ≤ _
   rw [hes]
   decide
 ·show esL _ = []
  rw [esL_one]; show tsEs _ = []; rw [Bv]; exact A9 1
end Go.Proofs.YtmjeljldmmkcpaaGreat.Dk

/-
  Keys, Bucket, Scan, Pick.
-/
import Derived.Test.YtejnmikbbnckeaaDc2
namespace Go.Proofs.Ytejnmikbbnckeaa
open Go.RowKit Go.PlainAid

set_option maxHeartbeats 4000000 in
theorem Keys_dict (B d x : Nat) (D : Dg) (w : World) (hD : Dct w B d x D) :
    Calls Try.prog 27 #[ptr d] w fun e w' => Below w.heap.size w w' ∧ ∃ a n c, e = .returned (.slice a n c) ∧ OwnS w' w.heap.size a n c (keysOf (esL (ordU D.L (2 ^ D.g)))) := by
  have HD : Hid (Dct w B d x D) := hD
  have hLs := leaves_any B d x D w hD
  have HPm : Hid ((ordU D.L (2 ^ D.g)).Perm D.L) := hD.ord_perm
  have HOL := ordU_le D.L (2 ^ D.g)
  have hpw := hD.pow
  have HTot : Hid ((esL (ordU D.L (2 ^ D.g))).length ≤ 1000000) := by
    have h1 := (HPm.out.flatMap_right Lf.es).length_eq
    have h2 := hD.le
    unfold Dg.es esL at h2
    unfold esL
    show _ ≤ _
    omega
  generalize ordU D.L (2 ^ D.g) = Lo at hLs HPm HTot HOL ⊢
  clear hD
  go_enter Try.func27, Try.ntmps27
  go_wp2_with fail
  refine hLs.mono ?_
  rintro e w1 ⟨hb1, al, nl, cl, rfl, hO1⟩
  have HB1 : Hid (Below w.heap.size w w1) := hb1
  have HOl : Hid (OwnP w1 w.heap.size 57 al nl cl (Lo.map Lf.a)) := hO1
  have HNl : Hid (Lo.length = nl) := by have := OwnP.len hO1; rw [List.length_map] at this; exact this
  have hnl : nl ≤ 65536 := by have := HNl.out; omega
  have HO : Hid (OwnS w1 w1.heap.size none 0 0 (keysOf (esL (Lo.take 0)))) := OwnR.nil _ _ _ _
  clear hb1 hO1 hLs HOL hpw
  go_wp2
  go_loopg [3, 5, 9] nl (fun q sv lv iv wr => ∃ (i : Nat) (a : Option Addr) (n c : Nat), i + q = nl ∧ iv = .int .i64 i ∧ sv = .slice a n c ∧ Hid (OwnS wr w1.heap.size a n c (keysOf (esL (Lo.take i)))) ∧ Hid (Below w1.heap.size w1 wr))
  case atStart => exact ⟨0, none, 0, 0, by omega, rfl, rfl, HO, Below.refl _ _⟩
  case round =>
    clear HO
    obtain ⟨i, a, n, c, hi, rfl, rfl, HO, HB⟩ := hrel
    by_cases h8 : (i : Int) < nl
    · obtain ⟨f, hf, hfm⟩ := get_of_lt (l := Lo) (i := i) (by have := HNl.out; omega)
      have hfD : f ∈ D.L := HPm.out.mem_iff.1 hfm
      have hBw : Below w.heap.size w wr := HB1.out.trans (HB.out.mono HB1.out.size)
      have hDr := HD.out.keep hBw
      obtain ⟨gl, rfl, -⟩ := OwnR.at HOl.out (by omega)
      have hcell := OwnP.cell (OwnR.keep HOl.out HB.out) (j := i) (p := f.a) (by rw [List.getElem?_map, hf]; rfl)
      have hK := keys_any B x f wr (hDr.leaf f hfD) (hDr.les hfD)
      have HS : Hid (keysOf (esL (Lo.take (i + 1))) = keysOf (esL (Lo.take i)) ++ keysOf f.es) := by show _ = _; rw [take_more hf, esL_append, keysOf_append, esL_one]
      have HLe : Hid ((keysOf (esL (Lo.take (i + 1)))).length ≤ 1000000) := by
        have h1 := HTot.out
        rw [← List.take_append_drop (i + 1) Lo, esL_append, List.length_append] at h1
        show _ ≤ _
        rw [List.length_map]
        omega
      rw [HS.out] at HLe
      generalize keysOf f.es = ks at hK HS HLe
      generalize f.a = fa at hcell hK
      clear hf hfm hfD hBw hDr
      go_wp2_with fail
      refine hK.mono ?_
      rintro e w2 ⟨hb2, a1, n1, c1, rfl, hO1⟩
      have HO1 : Hid (OwnS w2 wr.heap.size a1 n1 c1 ks) := hO1
      have HB2 := step_below HB hb2
      have HO0 : Hid (OwnS w2 w1.heap.size a n c (keysOf (esL (Lo.take i)))) := OwnR.keep HO.out hb2
      have HN1 : Hid (n + n1 ≤ 1000000) := by
        have h1 := OwnS.len HO.out
        have h2 := OwnS.len hO1
        have h3 := HLe.out
        rw [List.length_append] at h3
        show _ ≤ _
        omega
      clear hb2 hO1 hK
      go_wp2_with (at_builtin; refine append_p rfl (.tmp 13) (.tmp 15) rfl eltS w1.heap.size rfl HO0.out rfl HO1.out.rd scells_one (by have := HN1.out; omega) (by have := HN1.out; unfold maxLen; omega) HB2.out.size ?_; intro a3 n3 c3 w3 hn3 HO3 HG3; have HB3 : Hid (Below w1.heap.size w1 w3) := HB2.out.trans (HO0.out.below HG3.out HB2.out.size))
      go_roundg (gk - 1)
      case measure => omega
      case rel => exact ⟨i + 1, _, _, _, by omega, by go_num, rfl, by rw [HS.out, ← hn3]; rw [← scells_append] at HO3; exact HO3, HB3⟩
    · have HT : Hid (Lo.take i = Lo) := by show _ = _; rw [List.take_of_length_le (by have := HNl.out; omega)]
      rw [HT.out] at HO
      go_wp2
      go_ret
      exact ⟨HB1.out.trans (HB.out.mono HB1.out.size), _, _, _, rfl, HO.out.low HB1.out.size⟩

/-- The keys of a cursor's bucket. -/
def bkt (x g : Nat) (ks : List ByteArray) (c : Nat) : List ByteArray := ks.filter fun k => decide (hsh x k % 2 ^ g = c % 2 ^ g)
theorem bkt_append (x g : Nat) (a b : List ByteArray) (c : Nat) : bkt x g (a ++ b) c = bkt x g a c ++ bkt x g b c := List.filter_append ..
theorem Dct.bkt_leaf {w : World} {B d x : Nat} {D : Dg} (h : Dct w B d x D) {La Lc : List Lf} {f : Lf} {c : Nat} (e : D.L = La ++ f :: Lc) (h2 : ∀ u ∈ La, isIn u.pt c = false) (h3 : ∀ u ∈ Lc, isIn u.pt c = false) : bkt x D.g (keysOf D.es) c = bkt x D.g (keysOf f.es) c := by
  have hno : ∀ (M : List Lf), (∀ u ∈ M, u ∈ D.L) → (∀ u ∈ M, isIn u.pt c = false) → bkt x D.g (keysOf (esL M)) c = [] := by
    intro M hM hc
    unfold bkt
    rw [List.filter_eq_nil_iff]
    intro k hk hd
    have hd' := of_decide_eq_true hd
    obtain ⟨e, he, rfl⟩ := List.mem_map.1 hk
    obtain ⟨u, hu, he⟩ := List.mem_flatMap.1 he
    have h1 := h.own u (hM u hu) e he
    rw [← isIn_low (h.lef (hM u hu)).1, hd', isIn_low (h.lef (hM u hu)).1, hc u hu] at h1
    cases h1
  unfold Dg.es
  rw [e, esL_append, esL_cons, keysOf_append, keysOf_append, bkt_append, bkt_append, hno La (fun u hu => by rw [e]; simp [hu]) h2, hno Lc (fun u hu => by rw [e]; simp [hu]) h3, List.nil_append, List.append_nil]

set_option maxHeartbeats 4000000 in
theorem Bucket_dict (B d x : Nat) (D : Dg) (c : Nat) (w : World) (hD : Dct w B d x D) (hc : c < 18446744073709551616) :
    Calls Try.prog 20 #[ptr d, .int .u64 c] w fun e w' => Below w.heap.size w w' ∧ ∃ a n cp, e = .returned (.slice a n cp) ∧ OwnS w' w.heap.size a n cp (bkt x D.g (keysOf D.es) c) := by
  obtain ⟨La, f, Lc, eL, hin, h2, h3⟩ := hD.parts c
  rw [hD.bkt_leaf eL h2 h3]
  have hf : f ∈ D.L := by rw [eL]; simp
  have HD : Hid (Dct w B d x D) := hD
  have HL : Hid (Leaf w B x f) := hD.leaf f hf
  have HDe := fun w hD => Depth_any B d x D w hD
  have hg := hD.shp.le
  have HBu := fun w => Bucket_any c D.g w hc (by omega) (by omega)
  rw [low_dep, dep_nat hg] at HBu
  have HK := fun w hL => keys_any B x f w hL (hD.les hf)
  obtain ⟨hpl, hlt⟩ := hD.place hf hin
  have hp := hD.pow
  have hcp := hD.cpl
  have hrow := OwnP.cell hD.row hpl
  have HSd : Hid (∀ w', Below w.heap.size w w' → w'.cell? ⟨d, 0, none⟩ = some (.int .u64 (x : Nat))) := fun w' hb => (HD.out.keep hb).cseed
  have HLe : Hid ((keysOf f.es).length ≤ 1000000) := by have := hD.les hf; show _ ≤ _; rw [List.length_map]; exact this
  have HSz : Hid (∀ k ∈ keysOf f.es, k.size ≤ maxLen) := by
    show ∀ k ∈ keysOf f.es, k.size ≤ maxLen
    intro k hk
    obtain ⟨e, he, rfl⟩ := List.mem_map.1 hk
    obtain ⟨t, ht, he⟩ := List.mem_flatMap.1 he
    exact (HL.out.tab t ht).siz e he
  have hx := hD.seed
  have HLow := fun h w (hh : h < 18446744073709551616) => Low_any h D.g w hh (by omega) (by omega)
  generalize keysOf f.es = ks at HK HLe HSz ⊢
  have HBk : Hid (∀ i k, ks[i]? = some k → bkt x D.g (ks.take (i + 1)) c = bkt x D.g (ks.take i) c ++ (if hsh x k % 2 ^ D.g = c % 2 ^ D.g then [k] else [])) := by
    intro i k hk
    rw [take_more hk, bkt_append]
    congr 1
    unfold bkt
    by_cases e : hsh x k % 2 ^ D.g = c % 2 ^ D.g
    · rw [if_pos e, List.filter_cons_of_pos (by simpa using e)]; rfl
    · rw [if_neg e, List.filter_cons_of_neg (by simpa using e)]; rfl
  have HOd := fun h => low_dep h D.g
  rw [dep_nat hg] at HOd
  simp only [HOd] at HLow
  clear HOd
  obtain ⟨g, hgg⟩ : ∃ g, D.g = g := ⟨_, rfl⟩
  rw [hgg] at hg HBu hpl hlt hp hcp hrow HLow HBk ⊢
  generalize f.a = fa at HK hrow
  have hmod : ∀ h, h % 2 ^ g < 65536 := fun h => Nat.lt_of_lt_of_le (Nat.mod_lt _ (pow_pos _)) hp
  obtain ⟨pl, hplc⟩ : ∃ pl, c % 2 ^ g = pl := ⟨_, rfl⟩
  rw [hplc] at HBu hlt hrow HBk
  have HPL : Hid (c % 2 ^ g = pl) := hplc
  obtain ⟨P, hP⟩ : ∃ P, 2 ^ g = P := ⟨_, rfl⟩
  rw [hP] at hlt hcp hp
  have hplz : (pl : Int) < P := by omega
  have HDe2 : ∀ w, Dct w B d x D → Calls Try.prog 16 #[ptr d] w fun e w' => e = .returned (.int .i64 (g : Nat)) ∧ w' = w := fun w hD => by rw [← hgg]; exact HDe w hD
  clear HDe hgg hD hpl hin h2 h3 eL hf hplc hP
  go_enter Try.func20, Try.ntmps20
  go_wp2_with fail
  refine (HDe2 _ HD.out).mono ?_
  rintro e w ⟨rfl, rfl⟩
  go_wp2_with fail
  refine (HBu _).mono ?_
  rintro e w ⟨rfl, rfl⟩
  go_wp2_with fail
  refine (HK _ HL.out).mono ?_
  rintro e w1 ⟨hb1, ak, nk, ck, rfl, hO1⟩
  have HB1 : Hid (Below w.heap.size w w1) := hb1
  have HOk : Hid (OwnS w1 w.heap.size ak nk ck ks) := hO1
  have HNk : Hid (ks.length = nk) := OwnS.len hO1
  have hnk : nk ≤ 1000000 := by have := HNk.out; have := HLe.out; omega
  have HO : Hid (OwnS w1 w1.heap.size none 0 0 (bkt x g (ks.take 0) c)) := OwnR.nil _ _ _ _
  clear hb1 hO1 HK HDe2 HBu hcp hrow
  go_wp2
  go_loopg [7, 9, 24] nk (fun q sv kv iv wr => ∃ (i : Nat) (a : Option Addr) (n cp : Nat), i + q = nk ∧ iv = .int .i64 i ∧ sv = .slice a n cp ∧ Hid (OwnS wr w1.heap.size a n cp (bkt x g (ks.take i) c)) ∧ Hid (Below w1.heap.size w1 wr))
  case atStart => exact ⟨0, none, 0, 0, by omega, rfl, rfl, HO, Below.refl _ _⟩
  case round =>
    clear HO
    obtain ⟨i, a, n, cp, hi, rfl, rfl, HO, HB⟩ := hrel
    by_cases h8 : (i : Int) < nk
    · obtain ⟨k, hk, hkm⟩ := get_of_lt (l := ks) (i := i) (by have := HNk.out; omega)
      obtain ⟨gk', hgk, hcell⟩ := OwnS.cell (OwnR.keep HOk.out HB.out) (j := i) (by omega)
      subst hgk
      rw [List.getD_eq_getElem?_getD, hk] at hcell
      simp only [Option.getD_some] at hcell
      have hsd := HSd.out wr (HB1.out.trans (HB.out.mono HB1.out.size))
      have hOf := fun w => Of_hsh x k w (HSz.out k hkm) hx
      have hLw := fun w => HLow (hsh x k) w (hsh_lt x k)
      have hmd := hmod (hsh x k)
      have HS := HBk.out i k hk
      have HN1 : Hid (n + 1 ≤ 2000000) := by
        have h1 := OwnS.len HO.out
        have h2 : (bkt x g (ks.take i) c).length ≤ (ks.take i).length := List.length_filter_le _ _
        rw [List.length_take] at h2
        show _ ≤ _
        omega
      generalize hsh x k = h at hOf hLw hmd HS
      have hsz := HB.out.size
      clear hk hkm
      by_cases e : h % 2 ^ g = pl
      · rw [if_pos e] at HS
        have HS1 : Hid (bkt x g (ks.take (i + 1)) c = bkt x g (ks.take i) c ++ [k]) := HS
        rw [e] at hLw
        clear HS e hmd
        go_wp2_with fail
        refine (hOf _).mono ?_
        rintro e wr ⟨rfl, rfl⟩
        go_wp2_with fail
        refine (hLw _).mono ?_
        rintro e wr ⟨rfl, rfl⟩
        go_wp2_with (at_builtin; refine append_r rfl (.tmp 38) (.tmp 40) rfl eltS w1.heap.size rfl (OwnR.keep HO.out (alloc_below wr _)) [.string k] rfl rfl (by intro j u hu; cases j with | zero => (rw [add_flat]; simp only [World.cell?, heap_alloc_new]; exact hu) | succ j => simp at hu) (by simp [Value.oneCell']) (by decide) (by have := HN1.out; omega) (by have := HN1.out; unfold maxLen; omega) (Nat.le_trans hsz (alloc_below wr _).size) ?_; intro a3 n3 c3 w3 hn3 HO3 HG3 HW3; have HB3 : Hid (Below w1.heap.size w1 w3) := (HB.out.trans ((alloc_below wr _).mono hsz)).trans ((OwnR.keep HO.out (alloc_below wr _)).below HG3.out (Nat.le_trans hsz (alloc_below wr _).size)))
        go_roundg (gk - 1)
        case measure => omega
        case rel => exact ⟨i + 1, _, _, _, by omega, by go_num, rfl, by rw [HS1.out, ← hn3]; rw [show scells (bkt x g (ks.take i) c) ++ [.string k] = scells (bkt x g (ks.take i) c ++ [k]) by rw [scells_append]; rfl] at HO3; exact HO3, HB3⟩
      · rw [if_neg e, List.append_nil] at HS
        have HS1 : Hid (bkt x g (ks.take (i + 1)) c = bkt x g (ks.take i) c) := HS
        generalize h % 2 ^ g = y at hLw e hmd
        have hne : ((y : Int) == (pl : Int)) = false := by simp; omega
        clear HS e
        go_wp2_with fail
        refine (hOf _).mono ?_
        rintro e wr ⟨rfl, rfl⟩
        go_wp2_with fail
        refine (hLw _).mono ?_
        rintro e wr ⟨rfl, rfl⟩
        go_wp2
        go_roundg (gk - 1)
        case measure => omega
        case rel => exact ⟨i + 1, _, _, _, by omega, by go_num, rfl, by rw [HS1.out]; exact HO, HB⟩
    · have HT : Hid (ks.take i = ks) := by show _ = _; rw [List.take_of_length_le (by have := HNk.out; omega)]
      rw [HT.out] at HO
      go_wp2
      go_ret
      exact ⟨HB1.out.trans (HB.out.mono HB1.out.size), _, _, _, rfl, HO.out.low HB1.out.size⟩
end Go.Proofs.Ytejnmikbbnckeaa

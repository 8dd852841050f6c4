/-
  Scan and Pick.
-/
import Derived.Test.YtejnmikbbnckeaaDc3
namespace Go.Proofs.Ytejnmikbbnckeaa
open Go.RowKit Go.PlainAid

/-- Buckets, one behind the other, until enough were told. -/
def scanP (x g : Nat) (ks : List ByteArray) (cnt : Nat) : Nat → List ByteArray → Nat → List ByteArray × Nat
  | 0, acc, c => (acc, c)
  | n + 1, acc, c => if nxt g c = 0 ∨ cnt ≤ (acc ++ bkt x g ks c).length then (acc ++ bkt x g ks c, nxt g c) else scanP x g ks cnt n (acc ++ bkt x g ks c) (nxt g c)
/-- How many keys are asked for. -/
def cntC (n : Int) : Nat := if n < 1 then 1 else if 1000 < n then 1000 else n.toNat
theorem cntC_le (n : Int) : 1 ≤ cntC n ∧ cntC n ≤ 1000 := by
  unfold cntC
  split
  · omega
  · split <;> omega
theorem cntC_cases (n : Int) : (n < 1 ∧ cntC n = 1) ∨ (1000 < n ∧ cntC n = 1000) ∨ (1 ≤ n ∧ n ≤ 1000 ∧ n = (cntC n : Nat)) := by
  unfold cntC
  split
  · exact .inl ⟨by assumption, rfl⟩
  · split
    · exact .inr (.inl ⟨by assumption, rfl⟩)
    · exact .inr (.inr ⟨by omega, by omega, by omega⟩)
theorem bkt_le (x g : Nat) (ks : List ByteArray) (c : Nat) : (bkt x g ks c).length ≤ ks.length := List.length_filter_le _ _

set_option maxHeartbeats 4000000 in
theorem scan_loop (B d x : Nat) (D : Dg) (c0 cc : Nat) (count : Int) (w : World) (hD : Dct w B d x D) (hc : c0 < 18446744073709551616) (hcc : 1 ≤ cc ∧ cc ≤ 1000) (hcs : (count < 1 ∧ cc = 1) ∨ (1000 < count ∧ cc = 1000) ∨ (1 ≤ count ∧ count ≤ 1000 ∧ count = (cc : Nat))) :
    Calls Try.prog 26 #[ptr d, .int .u64 c0, .int .i64 count] w fun e w' => Below w.heap.size w w' ∧ ∃ a n cp, e = .returned (.tuple #[.slice a n cp, .int .u64 ((scanP x D.g (keysOf D.es) cc (10 * cc) [] c0).2 : Nat)]) ∧ OwnS w' w.heap.size a n cp (scanP x D.g (keysOf D.es) cc (10 * cc) [] c0).1 := by
  have HD : Hid (Dct w B d x D) := hD
  have hg := hD.shp.le
  have HDe : ∀ w, Dct w B d x D → Calls Try.prog 16 #[ptr d] w fun e w' => e = .returned (.int .i64 (D.g : Nat)) ∧ w' = w := fun w hD => Depth_any B d x D w hD
  have HBu := fun c w hD (hc : c < 18446744073709551616) => Bucket_dict B d x D c w hD hc
  have HNx := fun c w (hc : c < 18446744073709551616) => Next_any c D.g w hc (by omega) (by omega)
  rw [dep_nat hg] at HNx
  have HLe : Hid ((keysOf D.es).length ≤ 1000000) := by have := hD.le; show _ ≤ _; rw [List.length_map]; exact this
  have HNl : Hid (∀ c, nxt D.g c < 18446744073709551616) := fun c => by have h1 := nxt_lt D.g c; have h2 := hD.pow; omega
  generalize hR : scanP x D.g (keysOf D.es) cc (10 * cc) [] c0 = R
  have HR : Hid (scanP x D.g (keysOf D.es) cc (10 * cc) [] c0 = R) := hR
  generalize keysOf D.es = ks at HBu HLe HR
  generalize D.g = g at hg HDe HBu HNx HNl HR
  clear hD hR
  have HO : Hid (OwnS w w.heap.size none 0 0 []) := OwnR.nil _ _ _ _
  obtain ⟨hc1, hc2⟩ := hcc
  have hccz : (1 : Int) ≤ cc := by omega
  have hccy : (cc : Int) ≤ 1000 := by omega
  go_enter Try.func26, Try.ntmps26
  go_upto_region 1 with fail
  go_cut [2] from 9 to 11 (fun v wx => w = wx ∧ v = .int .i64 cc)
  case first =>
    clear HDe HBu HNx HLe HNl HR HO
    rcases hcs with ⟨h1, h2⟩ | ⟨h1, h2⟩ | ⟨h1, h1', h2⟩
    · subst h2
      go_wp2
      go_meet
      exact ⟨rfl, rfl⟩
    · subst h2
      go_wp2
      go_meet
      exact ⟨rfl, rfl⟩
    · subst h2
      go_wp2
      go_meet
      exact ⟨rfl, rfl⟩
  case rest =>
  obtain ⟨rfl, rfl⟩ := hcut
  clear hcs
  have HR0 : Hid (scanP x g ks cc (10 * cc) [] c0 = R) := HR
  obtain ⟨M, hM⟩ : ∃ M, 10 * cc = M := ⟨_, rfl⟩
  have hMz : 10 * (cc : Int) = (M : Nat) := by omega
  have hM4 : M ≤ 10000 := by omega
  rw [hM] at HR0
  clear HR hM
  go_wp2
  go_loopg [1, 8, 14] M (fun q cv sv iv wr => ∃ (i c n cp : Nat) (a : Option Addr) (acc : List ByteArray), i + q = M ∧ iv = .int .i64 i ∧ cv = .int .u64 c ∧ c < 18446744073709551616 ∧ sv = .slice a n cp ∧ n < 1000 ∧ Hid (OwnS wr w.heap.size a n cp acc) ∧ Hid (Below w.heap.size w wr) ∧ Hid (scanP x g ks cc q acc c = R))
  case atStart => exact ⟨0, c0, 0, 0, none, [], by omega, rfl, rfl, hc, rfl, by omega, HO, Below.refl _ _, HR0⟩
  case round =>
    clear HO HR0
    obtain ⟨i, c, n, cp, a, acc, hi, rfl, rfl, hc, rfl, hn, HO, HB, HR⟩ := hrel
    by_cases h8 : (i : Int) < M
    · obtain ⟨q, rfl⟩ : ∃ q, gk = q + 1 := ⟨gk - 1, by omega⟩
      have hB := HBu c wr (HD.out.keep HB.out) hc
      have HB0 : Hid ((bkt x g ks c).length ≤ 1000000) := Nat.le_trans (bkt_le x g ks c) HLe.out
      have hNx := fun w => HNx c w hc
      have hnl := HNl.out c
      have HRu : Hid ((if nxt g c = 0 ∨ cc ≤ (acc ++ bkt x g ks c).length then (acc ++ bkt x g ks c, nxt g c) else scanP x g ks cc q (acc ++ bkt x g ks c) (nxt g c)) = R) := HR.out
      generalize bkt x g ks c = bk at hB HB0 HRu
      generalize nxt g c = c1 at hNx hnl HRu
      clear HBu HNx HR
      go_wp2_with fail
      refine hB.mono ?_
      rintro e w1 ⟨hb1, a1, n1, cp1, rfl, hO1⟩
      have HO1 : Hid (OwnS w1 wr.heap.size a1 n1 cp1 bk) := hO1
      have HB1 := step_below HB hb1
      have HO0 : Hid (OwnS w1 w.heap.size a n cp acc) := OwnR.keep HO.out hb1
      have HN1 : Hid (n + n1 ≤ 2000000) := by
        have h2 := OwnS.len hO1
        have h3 := HB0.out
        show _ ≤ _
        omega
      clear hb1 hO1 hB HO HB
      go_wp2_with (at_builtin; refine append_p rfl (.tmp 16) (.tmp 19) rfl eltS w.heap.size rfl HO0.out rfl HO1.out.rd scells_one (by have := HN1.out; omega) (by have := HN1.out; unfold maxLen; omega) HB1.out.size ?_; intro a3 n3 c3 w3 hn3 HO3 HG3; have HB3 : Hid (Below w.heap.size w w3) := HB1.out.trans (HO0.out.below HG3.out HB1.out.size))
      refine (HDe _ (HD.out.keep HB3.out)).mono ?_
      rintro e w3 ⟨rfl, rfl⟩
      go_wp2_with fail
      refine (hNx _).mono ?_
      rintro e w3 ⟨rfl, rfl⟩
      rw [← scells_append] at HO3
      have HL3 : Hid ((acc ++ bk).length = n + n1) := by have := OwnS.len HO3.out; show _ = _; omega
      rw [hn3] at HO3
      have hnn : n + n1 ≤ 2000000 := HN1.out
      clear HO0 HO1 HB1 HG3 hNx HDe HN1 hn3
      by_cases h1 : c1 = 0
      · have HE : Hid ((acc ++ bk, c1) = R) := by have := HRu.out; rw [if_pos (.inl h1)] at this; exact this
        clear HRu
        subst h1
        go_wp2
        go_ret2
        refine ⟨HB3.out, a3, n + n1, c3, ?_, ?_⟩
        · rw [← HE.out]; rfl
        · rw [← HE.out]; exact HO3.out
      · have hz : ((c1 : Int) == 0) = false := by simp; omega
        by_cases h2 : cc ≤ n + n1
        · have HE : Hid ((acc ++ bk, c1) = R) := by have := HRu.out; rw [if_pos (.inr (by rw [HL3.out]; exact h2))] at this; exact this
          clear HRu
          have h2z : (cc : Int) ≤ (n : Int) + n1 := by omega
          clear h1 h2
          go_wp2
          go_ret2
          refine ⟨HB3.out, a3, n + n1, c3, ?_, ?_⟩
          · rw [← HE.out]; rfl
          · rw [← HE.out]; exact HO3.out
        · have HE : Hid (scanP x g ks cc q (acc ++ bk) c1 = R) := by have := HRu.out; rw [if_neg (by rw [HL3.out]; omega)] at this; exact this
          clear HRu
          have h2z : decide ((cc : Int) ≤ (n : Int) + n1) = false := decide_eq_false (by omega)
          have h3 : n + n1 < 1000 := by omega
          clear h1 h2
          go_wp2
          go_roundg q
          case measure => omega
          case rel => exact ⟨i + 1, c1, _, c3, a3, acc ++ bk, by omega, by go_num, rfl, hnl, rfl, h3, HO3, HB3, HE⟩
    · obtain rfl : gk = 0 := by omega
      have HE : Hid ((acc, c) = R) := HR.out
      clear HR HBu HNx HDe
      go_wp2
      go_ret2
      refine ⟨HB.out, a, n, cp, ?_, ?_⟩
      · rw [← HE.out]; rfl
      · rw [← HE.out]; exact HO.out
theorem Scan_dict (B d x : Nat) (D : Dg) (c : Nat) (count : Int) (w : World) (hD : Dct w B d x D) (hc : c < 18446744073709551616) :
    Calls Try.prog 26 #[ptr d, .int .u64 c, .int .i64 count] w fun e w' => Below w.heap.size w w' ∧ ∃ a n cp, e = .returned (.tuple #[.slice a n cp, .int .u64 ((scanP x D.g (keysOf D.es) (cntC count) (10 * cntC count) [] c).2 : Nat)]) ∧ OwnS w' w.heap.size a n cp (scanP x D.g (keysOf D.es) (cntC count) (10 * cntC count) [] c).1 :=
  scan_loop B d x D c (cntC count) count w hD hc (cntC_le count) (cntC_cases count)

/-- What Pick tells. -/
def pickK (D : Dg) (n : Nat) : ByteArray := (keysOf (esL (ordU D.L (2 ^ D.g)))).getD (n % D.es.length) ⟨#[]⟩
theorem Pick_none (B d x : Nat) (D : Dg) (n : Nat) (w : World) (hD : Dct w B d x D) (h0 : D.es.length = 0) :
    Calls Try.prog 47 #[ptr d, .int .u64 n] w fun e w' => e = .returned (.tuple #[.string ⟨#[]⟩, .bool false]) ∧ w' = w := by
  have hc := hD.ccnt
  rw [h0] at hc
  replace hc : w.cell? ⟨d, 1, none⟩ = some (.int .i64 0) := hc
  clear hD h0
  go_enter Try.func47, Try.ntmps47
  go_wp2
  go_ret2
  exact ⟨rfl, rfl⟩
set_option maxHeartbeats 4000000 in
theorem Pick_some (B d x : Nat) (D : Dg) (n : Nat) (w : World) (hD : Dct w B d x D) (h0 : 0 < D.es.length) (hn : n < 18446744073709551616) :
    Calls Try.prog 47 #[ptr d, .int .u64 n] w fun e w' => e = .returned (.tuple #[.string (pickK D n), .bool true]) ∧ Below w.heap.size w w' := by
  have HD : Hid (Dct w B d x D) := hD
  have hc := hD.ccnt
  have hLs := leaves_any B d x D w hD
  have HPm : Hid ((ordU D.L (2 ^ D.g)).Perm D.L) := hD.ord_perm
  have HOL := ordU_le D.L (2 ^ D.g)
  have hpw := hD.pow
  have hle := hD.le
  have HTot : Hid ((esL (ordU D.L (2 ^ D.g))).length = D.es.length) := (HPm.out.flatMap_right Lf.es).length_eq
  have HK : Hid (pickK D n = (keysOf (esL (ordU D.L (2 ^ D.g)))).getD (n % D.es.length) ⟨#[]⟩) := rfl
  generalize pickK D n = k at HK ⊢
  generalize ordU D.L (2 ^ D.g) = Lo at hLs HPm HTot HOL HK
  generalize hct : D.es.length = ct at hc h0 hle HTot HK
  have hmt : n % ct < ct := Nat.mod_lt _ h0
  have hmz : (n : Int) % (ct : Int) = ((n % ct : Nat) : Int) := by simp
  generalize n % ct = m at hmt hmz HK
  have hcz : ((ct : Int) == 0) = false := by simp; omega
  clear hD hct
  go_enter Try.func47, Try.ntmps47
  go_wp2_with fail
  refine hLs.mono ?_
  rintro e w1 ⟨hb1, al, nl, cl, rfl, hO1⟩
  have HB1 : Hid (Below w.heap.size w w1) := hb1
  have HOl : Hid (OwnP w1 w.heap.size 57 al nl cl (Lo.map Lf.a)) := hO1
  have HNl : Hid (Lo.length = nl) := by have := OwnP.len hO1; rw [List.length_map] at this; exact this
  have hnl : nl ≤ 65536 := by have := HNl.out; omega
  clear hb1 hO1 hLs HOL hpw hc hmz hcz
  go_wp2
  go_loopg [6, 8, 9, 26] nl (fun q av lv sv iv wr => ∃ i ah : Nat, i + q = nl ∧ iv = .int .i64 i ∧ av = .int .i64 ah ∧ Hid (ah + (esL (Lo.take i)).length = m) ∧ Hid (Below w1.heap.size w1 wr))
  case atStart => exact ⟨0, m, by omega, rfl, rfl, (by simp [esL] : m + (esL (Lo.take 0)).length = m), Below.refl _ _⟩
  case round =>
    obtain ⟨i, ah, hi, rfl, rfl, HA, HB⟩ := hrel
    by_cases h8 : (i : Int) < nl
    · obtain ⟨f, hf, hfm⟩ := get_of_lt (l := Lo) (i := i) (by have := HNl.out; omega)
      have hfD : f ∈ D.L := HPm.out.mem_iff.1 hfm
      have hDr := HD.out.keep (HB1.out.trans (HB.out.mono HB1.out.size))
      obtain ⟨gl, rfl, -⟩ := OwnR.at HOl.out (by omega)
      have hcell := OwnP.cell (OwnR.keep HOl.out HB.out) (j := i) (p := f.a) (by rw [List.getElem?_map, hf]; rfl)
      have hSz := size_any B x f wr (hDr.leaf f hfD) (hDr.les hfD)
      have hKy := keys_any B x f wr (hDr.leaf f hfD) (hDr.les hfD)
      have HS : Hid ((esL (Lo.take (i + 1))).length = (esL (Lo.take i)).length + f.es.length) := by show _ = _; rw [take_more hf, esL_append, List.length_append, esL_one]
      have hfl := hDr.les hfD
      have hah : ah ≤ 1000000 := by have := HA.out; omega
      have HKy : Hid (ah < f.es.length → k = (keysOf f.es).getD ah ⟨#[]⟩) := by
        intro hlt
        have h1 : Lo = Lo.take i ++ f :: Lo.drop (i + 1) := get_parts hf
        have h2 : keysOf (esL Lo) = keysOf (esL (Lo.take i)) ++ (keysOf f.es ++ keysOf (esL (Lo.drop (i + 1)))) := by
          conv => lhs; rw [h1, esL_append, esL_cons, keysOf_append, keysOf_append]
        have h3 := HA.out
        rw [HK.out, h2, List.getD_eq_getElem?_getD, List.getD_eq_getElem?_getD, List.getElem?_append_right (by rw [List.length_map]; omega), List.length_map, show m - (esL (Lo.take i)).length = ah by omega, List.getElem?_append_left (by rw [List.length_map]; exact hlt)]
      have HKl : Hid ((keysOf f.es).length = f.es.length) := List.length_map ..
      generalize keysOf f.es = ks at hKy HKy HKl
      generalize hfe : f.es.length = fl at hSz HS hfl HKy HKl
      generalize f.a = fa at hcell hSz hKy
      clear hf hfm hfD hDr hfe
      go_wp2_with fail
      refine hSz.mono ?_
      rintro e wr ⟨rfl, rfl⟩
      by_cases h9 : (fl : Int) ≤ ah
      · have HA1 : Hid (ah - fl + (esL (Lo.take (i + 1))).length = m) := by have := HA.out; have := HS.out; show _ = _; omega
        obtain ⟨ah2, ha2⟩ : ∃ ah2, ah - fl = ah2 := ⟨_, rfl⟩
        have haz : (ah : Int) - fl = (ah2 : Nat) := by omega
        rw [ha2] at HA1
        clear hKy HKy hSz ha2
        go_wp2
        go_roundg (gk - 1)
        case measure => omega
        case rel => exact ⟨i + 1, ah2, by omega, by go_num, rfl, HA1, HB⟩
      · have h9d : decide ((fl : Int) ≤ ah) = false := decide_eq_false h9
        have HE := HKy.out (by omega)
        have HKE : Hid (k = ks.getD ah ⟨#[]⟩) := HE
        clear HKy HE hSz
        go_wp2_with fail
        refine hKy.mono ?_
        rintro e w2 ⟨hb2, a2, n2, c2, rfl, hO2⟩
        have HB2 := step_below HB hb2
        have hn2 : (ah : Int) < n2 := by have := OwnS.len hO2; have := HKl.out; omega
        obtain ⟨g2, rfl, hc2⟩ := OwnS.cell hO2 (j := ah) (by omega)
        have HBw : Hid (Below w.heap.size w w2) := HB1.out.trans (HB2.out.mono HB1.out.size)
        rw [← HKE.out] at hc2
        clear hb2 hO2 hKy HB2
        go_wp2
        go_ret2
        exact ⟨rfl, HBw.out⟩
    · exact absurd HA.out (by have h1 := HTot.out; rw [List.take_of_length_le (by have := HNl.out; omega), h1]; omega)
end Go.Proofs.Ytejnmikbbnckeaa

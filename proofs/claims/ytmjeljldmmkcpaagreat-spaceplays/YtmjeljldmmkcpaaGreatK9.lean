/- Texts that the others stand on. -/
import Derived.Test.YtmjeljldmmkcpaaGreatK8
namespace Go.Proofs.YtmjeljldmmkcpaaGreat.Dk
open Go.RowKit Go.PlainAid
def scanP (x g : Nat) (ks : List ByteArray) (cnt : Nat) : Nat → List ByteArray → Nat → List ByteArray × Nat
 | 0, acc, c => (acc, c)
 | n + 1, acc, c => if nxt g c = 0 ∨ cnt ≤ (acc ++ bkt x g ks c).length then (acc ++ bkt x g ks c, nxt g c) else scanP x g ks cnt n (acc ++ bkt x g ks c) (nxt g c)
def cntC (n : Int) : Nat := if n < 1 then 1 else if 1000 < n then 1000 else n.toNat
theorem cntC_le (n : Int) : 1 ≤ cntC n ∧ cntC n ≤ 1000 := by
 unfold cntC
 split
 ·omega
 ·split <;> omega
theorem cntC_cases (n : Int) : (n < 1 ∧ cntC n = 1) ∨ (1000 < n ∧ cntC n = 1000) ∨ (1 ≤ n ∧ n ≤ 1000 ∧ n = (cntC n : Nat)) := by
 unfold cntC
 split
 ·exact .inl ⟨by assumption, rfl⟩
 ·split
  ·exact .inr (.inl ⟨by assumption, rfl⟩)
  ·exact .inr (.inr ⟨by omega, by omega, by omega⟩)
theorem bkt_le (x g : Nat) (ks : List ByteArray) (c : Nat) : (bkt x g ks c).length ≤ ks.length := List.length_filter_le _ _
set_option maxHeartbeats 4000000 in
theorem scan_loop (B d x : Nat) (D : Dg) (c0 cc : Nat) (count : Int) (w : World) (hD : Dct w B d x D) (hc : c0 < 18446744073709551616) (hcc : 1 ≤ cc ∧ cc ≤ 1000) (hcs : (count < 1 ∧ cc = 1) ∨ (1000 < count ∧ cc = 1000) ∨ (1 ≤ count ∧ count ≤ 1000 ∧ count = (cc : Nat))) :
  Calls Tryz.prog 74 #[ptr d, .int .u64 c0, .int .i64 count] w fun e w' => Below w.heap.size w w' ∧ ∃ a n cp, e = .returned (.tuple #[.slice a n cp, .int .u64 ((scanP x D.g (Ae D.es) cc (10 * cc) [] c0).2 : Nat)]) ∧ OwnS w' w.heap.size a n cp (scanP x D.g (Ae D.es) cc (10 * cc) [] c0).1 := by
 have HD : Hid (Dct w B d x D) := hD
 have hg := hD.shp.le
 have HDe : ∀ w, Dct w B d x D → Calls Tryz.prog 112 #[ptr d] w fun e w' => e = .returned (.int .i64 (D.g : Nat)) ∧ w' = w := fun w hD => Depth_any B d x D w hD
 have HBu := fun c w hD (hc : c < 18446744073709551616) => Bucket_dict B d x D c w hD hc
 have HNx := fun c w (hc : c < 18446744073709551616) => Next_any c D.g w hc (by omega) (by omega)
 rw [dep_nat hg] at HNx
 have HLe : Hid ((Ae D.es).length ≤ 1000000) := by have := hD.le; show _ ≤ _; rw [List.length_map]; exact this
 have HNl : Hid (∀ c, nxt D.g c < 18446744073709551616) := fun c => by have h1 := nxt_lt D.g c; have h2 := hD.pow; omega
 generalize hR : scanP x D.g (Ae D.es) cc (10 * cc) [] c0 = R
 have HR : Hid (scanP x D.g (Ae D.es) cc (10 * cc) [] c0 = R) := hR
 generalize Ae D.es = ks at HBu HLe HR
 generalize D.g = g at hg HDe HBu HNx HNl HR
 clear hD hR
 have HO : Hid (OwnS w w.heap.size none 0 0 []) := OwnR.nil _ _ _ _
 obtain ⟨hc1, hc2⟩ := hcc
 have hccz : (1 : Int) ≤ cc := by omega
 have hccy : (cc : Int) ≤ 1000 := by omega
 go_enter Tryz.func74, Tryz.ntmps74
 go_upto_region 1 with fail
 go_cut [2] from 9 to 11 (fun v wx => w = wx ∧ v = .int .i64 cc)
 case first =>
  clear HDe HBu HNx HLe HNl HR HO
  rcases hcs with ⟨h1, h2⟩ | ⟨h1, h2⟩ | ⟨h1, h1', h2⟩
  ·subst h2
   go_wp2
   go_meet
   exact ⟨rfl, rfl⟩
  ·subst h2
   go_wp2
   go_meet
   exact ⟨rfl, rfl⟩
  ·subst h2
   go_wp2
   go_meet
   exact ⟨rfl, rfl⟩
 case rest =>
 obtain ⟨rfl, rfl⟩ := hcut
 clear hcs
 have HR0 : Hid (scanP x g ks cc (10 * cc) [] c0 = R) := HR
 obtain ⟨M, hM⟩ : ∃ M, 10 * cc = M := ⟨_, rfl⟩
 have hMz : 10 * (cc : Int) = (M : Nat) := by omega
 have hM4 : M ≤ 10000 := by omega
 rw [hM] at HR0
 clear HR hM
 go_wp2
 go_loopg [1, 8, 14] M (fun q cv sv iv wr => ∃ (i c n cp : Nat) (a : Option Addr) (acc : List ByteArray), i + q = M ∧ iv = .int .i64 i ∧ cv = .int .u64 c ∧ c < 18446744073709551616 ∧ sv = .slice a n cp ∧ n < 1000 ∧ Hid (OwnS wr w.heap.size a n cp acc) ∧ Hid (Below w.heap.size w wr) ∧ Hid (scanP x g ks cc q acc c = R))
 case atStart => exact ⟨0, c0, 0, 0, none, [], by omega, rfl, rfl, hc, rfl, by omega, HO, Below.refl _ _, HR0⟩
 case round =>
  clear HO HR0
  obtain ⟨i, c, n, cp, a, acc, hi, rfl, rfl, hc, rfl, hn, HO, HB, HR⟩ := hrel
  by_cases h8 : (i : Int) < M
  ·obtain ⟨q, rfl⟩ : ∃ q, gk = q + 1 := ⟨gk - 1, by omega⟩
   have hB := HBu c wr (HD.out.keep HB.out) hc
   have HB0 : Hid ((bkt x g ks c).length ≤ 1000000) := Nat.le_trans (bkt_le x g ks c) HLe.out
   have hNx := fun w => HNx c w hc
   have hnl := HNl.out c
   have HRu : Hid ((if nxt g c = 0 ∨ cc ≤ (acc ++ bkt x g ks c).length then (acc ++ bkt x g ks c, nxt g c) else scanP x g ks cc q (acc ++ bkt x g ks c) (nxt g c)) = R) := HR.out
   generalize bkt x g ks c = bk at hB HB0 HRu
   generalize nxt g c = c1 at hNx hnl HRu
   clear HBu HNx HR
   go_wp2_with fail
   refine hB.mono ?_
   rintro e w1 ⟨hb1, a1, n1, cp1, rfl, hO1⟩
   have HO1 : Hid (OwnS w1 wr.heap.size a1 n1 cp1 bk) := hO1
   have HB1 := Ad HB hb1
   have HO0 : Hid (OwnS w1 w.heap.size a n cp acc) := OwnR.keep HO.out hb1
   have HN1 : Hid (n + n1 ≤ 2000000) := by
    have h2 := OwnS.len hO1
    have h3 := HB0.out
    show _ ≤ _
    omega
   clear hb1 hO1 hB HO HB
   go_wp2_with (at_builtin; refine append_p rfl (.tmp 16) (.tmp 19) rfl eltS w.heap.size rfl HO0.out rfl HO1.out.rd scells_one (by have := HN1.out; omega) (by have := HN1.out; unfold maxLen; omega) HB1.out.size ?_; intro a3 n3 c3 w3 hn3 HO3 HG3; have HB3 : Hid (Below w.heap.size w w3) := HB1.out.trans (HO0.out.below HG3.out HB1.out.size))
   refine (HDe _ (HD.out.keep HB3.out)).mono ?_
   rintro e w3 ⟨rfl, rfl⟩
   go_wp2_with fail
   refine (hNx _).mono ?_
   rintro e w3 ⟨rfl, rfl⟩
   rw [← Cw] at HO3
   have HL3 : Hid ((acc ++ bk).length = n + n1) := by have := OwnS.len HO3.out; show _ = _; omega
   rw [hn3] at HO3
   have hnn : n + n1 ≤ 2000000 := HN1.out
   clear HO0 HO1 HB1 HG3 hNx HDe HN1 hn3
   by_cases h1 : c1 = 0
   ·have HE : Hid ((acc ++ bk, c1) = R) := by have := HRu.out; rw [if_pos (.inl h1)] at this; exact this
    clear HRu
    subst h1
    go_wp2
    go_ret2
    refine ⟨HB3.out, a3, n + n1, c3, ?_, ?_⟩
    ·rw [← HE.out]; rfl
    ·rw [← HE.out]; exact HO3.out
   ·have hz : ((c1 : Int) == 0) = false := by simp; omega
    by_cases h2 : cc ≤ n + n1
    ·have HE : Hid ((acc ++ bk, c1) = R) := by have := HRu.out; rw [if_pos (.inr (by rw [HL3.out]; exact h2))] at this; exact this
     clear HRu
     have h2z : (cc : Int) ≤ (n : Int) + n1 := by omega
     clear h1 h2
     go_wp2
     go_ret2
     refine ⟨HB3.out, a3, n + n1, c3, ?_, ?_⟩
     ·rw [← HE.out]; rfl
     ·rw [← HE.out]; exact HO3.out
    ·have HE : Hid (scanP x g ks cc q (acc ++ bk) c1 = R) := by have := HRu.out; rw [if_neg (by rw [HL3.out]; omega)] at this; exact this
     clear HRu
     have h2z : decide ((cc : Int) ≤ (n : Int) + n1) = false := decide_eq_false (by omega)
     have h3 : n + n1 < 1000 := by omega
     clear h1 h2
     go_wp2
     go_roundg q
     case measure => omega
     case rel => exact ⟨i + 1, c1, _, c3, a3, acc ++ bk, by omega, by go_num, rfl, hnl, rfl, h3, HO3, HB3, HE⟩
  ·obtain rfl : gk = 0 := by omega
   have HE : Hid ((acc, c) = R) := HR.out
   clear HR HBu HNx HDe
   go_wp2
   go_ret2
   refine ⟨HB.out, a, n, cp, ?_, ?_⟩
   ·rw [← HE.out]; rfl
   ·rw [← HE.out]; exact HO.out
theorem Scan_dict (B d x : Nat) (D : Dg) (c : Nat) (count : Int) (w : World) (hD : Dct w B d x D) (hc : c < 18446744073709551616) :
  Calls Tryz.prog 74 #[ptr d, .int .u64 c, .int .i64 count] w fun e w' => Below w.heap.size w w' ∧ ∃ a n cp, e = .returned (.tuple #[.slice a n cp, .int .u64 ((scanP x D.g (Ae D.es) (cntC count) (10 * cntC count) [] c).2 : Nat)]) ∧ OwnS w' w.heap.size a n cp (scanP x D.g (Ae D.es) (cntC count) (10 * cntC count) [] c).1 :=
 scan_loop B d x D c (cntC count) count w hD hc (cntC_le count) (cntC_cases count)
def pickK (D : Dg) (n : Nat) : ByteArray := (Ae (esL (ordU D.L (2 ^ D.g)))).getD (n % D.es.length) ⟨#[]⟩
theorem Pick_none (B d x : Nat) (D : Dg) (n : Nat) (w : World) (hD : Dct w B d x D) (h0 : D.es.length = 0) :
  Calls Tryz.prog 144 #[ptr d, .int .u64 n] w fun e w' => e = .returned (.tuple #[.string ⟨#[]⟩, .bool false]) ∧ w' = w := by
 have hc := hD.ccnt
 rw [h0] at hc
 replace hc : w.cell? ⟨d, 1, none⟩ = some (.int .i64 0) := hc
 clear hD h0
 go_enter Tryz.func144, Tryz.ntmps144
 go_wp2
 go_ret2
 exact ⟨rfl, rfl⟩
set_option maxHeartbeats 4000000 in
theorem Pick_some (B d x : Nat) (D : Dg) (n : Nat) (w : World) (hD : Dct w B d x D) (h0 : 0 < D.es.length) (hn : n < 18446744073709551616) :
  Calls Tryz.prog 144 #[ptr d, .int .u64 n] w fun e w' => e = .returned (.tuple #[.string (pickK D n), .bool true]) ∧ Below w.heap.size w w' := by
 have HD : Hid (Dct w B d x D) := hD
 have hc := hD.ccnt
 have hLs := leaves_any B d x D w hD
 have HPm : Hid ((ordU D.L (2 ^ D.g)).Perm D.L) := hD.ord_perm
 have HOL := ordU_le D.L (2 ^ D.g)
 have hpw := hD.pow
 have hle := hD.le
 have HTot : Hid ((esL (ordU D.L (2 ^ D.g))).length = D.es.length) := (HPm.out.flatMap_right Lf.es).length_eq
 have HK : Hid (pickK D n = (Ae (esL (ordU D.L (2 ^ D.g)))).getD (n % D.es.length) ⟨#[]⟩) := rfl
 generalize pickK D n = k at HK ⊢
 generalize ordU D.L (2 ^ D.g) = Lo at hLs HPm HTot HOL HK
 generalize hct : D.es.length = ct at hc h0 hle HTot HK
 have hmt : n % ct < ct := Nat.mod_lt _ h0
 have hmz : (n : Int) % (ct : Int) = ((n % ct : Nat) : Int) := by simp
 generalize n % ct = m at hmt hmz HK
 have hcz : ((ct : Int) == 0) = false := by simp; omega
 clear hD hct
 go_enter Tryz.func144, Tryz.ntmps144
 go_wp2_with fail
 refine hLs.mono ?_
 rintro e w1 ⟨hb1, al, nl, cl, rfl, hO1⟩
 have HB1 : Hid (Below w.heap.size w w1) := hb1
 have HOl : Hid (OwnP w1 w.heap.size 123 al nl cl (Lo.map Lf.a)) := hO1
 have HNl : Hid (Lo.length = nl) := by have := OwnP.len hO1; rw [List.length_map] at this; exact this
 have hnl : nl ≤ 65536 := by have := HNl.out; omega
 clear hb1 hO1 hLs HOL hpw hc hmz hcz
 go_wp2
 go_loopg [6, 8, 9, 26] nl (fun q av lv sv iv wr => ∃ i ah : Nat, i + q = nl ∧ iv = .int .i64 i ∧ av = .int .i64 ah ∧ Hid (ah + (esL (Lo.take i)).length = m) ∧ Hid (Below w1.heap.size w1 wr))
 case atStart => exact ⟨0, m, by omega, rfl, rfl, (by simp [esL] : m + (esL (Lo.take 0)).length = m), Below.refl _ _⟩
 case round =>
  obtain ⟨i, ah, hi, rfl, rfl, HA, HB⟩ := hrel
  by_cases h8 : (i : Int) < nl
  ·obtain ⟨f, hf, hfm⟩ := A6 (l := Lo) (i := i) (by have := HNl.out; omega)
   have hfD : f ∈ D.L := HPm.out.mem_iff.1 hfm
   have hDr := HD.out.keep (HB1.out.trans (HB.out.mono HB1.out.size))
   obtain ⟨gl, rfl, -⟩ := OwnR.at HOl.out (by omega)
   have hcell := OwnP.cell (OwnR.keep HOl.out HB.out) (j := i) (p := f.a) (by rw [List.getElem?_map, hf]; rfl)
   have hSz := size_any B x f wr (hDr.leaf f hfD) (hDr.les hfD)
   have hKy := keys_any B x f wr (hDr.leaf f hfD) (hDr.les hfD)
   have HS : Hid ((esL (Lo.take (i + 1))).length = (esL (Lo.take i)).length + f.es.length) := by show _ = _; rw [B4 hf, Aq, List.length_append, esL_one]
   have hfl := hDr.les hfD
   have hah : ah ≤ 1000000 := by have := HA.out; omega
   have HKy : Hid (ah < f.es.length → k = (Ae f.es).getD ah ⟨#[]⟩) := by
    intro hlt
    have h1 : Lo = Lo.take i ++ f :: Lo.drop (i + 1) := get_parts hf
    have h2 : Ae (esL Lo) = Ae (esL (Lo.take i)) ++ (Ae f.es ++ Ae (esL (Lo.drop (i + 1)))) := by
     conv => lhs; rw [h1, Aq, Ax, Aj, Aj]
    have h3 := HA.out
    rw [HK.out, h2, List.getD_eq_getElem?_getD, List.getD_eq_getElem?_getD, List.getElem?_append_right (by rw [List.length_map]; omega), List.length_map, show m - (esL (Lo.take i)).length = ah by omega, List.getElem?_append_left (by rw [List.length_map]; exact hlt)]
   have HKl : Hid ((Ae f.es).length = f.es.length) := List.length_map ..
   generalize Ae f.es = ks at hKy HKy HKl
   generalize hfe : f.es.length = fl at hSz HS hfl HKy HKl
   generalize f.a = fa at hcell hSz hKy
   clear hf hfm hfD hDr hfe
   go_wp2_with fail
   refine hSz.mono ?_
   rintro e wr ⟨rfl, rfl⟩
   by_cases h9 : (fl : Int) ≤ ah
   ·have HA1 : Hid (ah - fl + (esL (Lo.take (i + 1))).length = m) := by have := HA.out; have := HS.out; show _ = _; omega
    obtain ⟨ah2, ha2⟩ : ∃ ah2, ah - fl = ah2 := ⟨_, rfl⟩
    have haz : (ah : Int) - fl = (ah2 : Nat) := by omega
    rw [ha2] at HA1
    clear hKy HKy hSz ha2
    go_wp2
    go_roundg (gk - 1)
    case measure => omega
    case rel => exact ⟨i + 1, ah2, by omega, by go_num, rfl, HA1, HB⟩
   ·have h9d : decide ((fl : Int) ≤ ah) = false := decide_eq_false h9
    have HE := HKy.out (by omega)
    have HKE : Hid (k = ks.getD ah ⟨#[]⟩) := HE
    clear HKy HE hSz
    go_wp2_with fail
    refine hKy.mono ?_
    rintro e w2 ⟨hb2, a2, n2, c2, rfl, hO2⟩
    have HB2 := Ad HB hb2
    have hn2 : (ah : Int) < n2 := by have := OwnS.len hO2; have := HKl.out; omega
    obtain ⟨g2, rfl, hc2⟩ := OwnS.cell hO2 (j := ah) (by omega)
    have HBw : Hid (Below w.heap.size w w2) := HB1.out.trans (HB2.out.mono HB1.out.size)
    rw [← HKE.out] at hc2
    clear hb2 hO2 hKy HB2
    go_wp2
    go_ret2
    exact ⟨rfl, HBw.out⟩
  ·exact absurd HA.out (by have h1 := HTot.out; rw [List.take_of_length_le (by have := HNl.out; omega), h1]; omega)
def Dg.fp (D : Dg) (d : Nat) : List Nat := d :: D.pb :: fpL D.L
structure Turn (w w' : World) (B d x : Nat) (D D' : Dg) : Prop where
 dct : Dct w' B d x D'
 stay : Stay w w' (D.fp d)
 fps : ∀ j ∈ D'.fp d, j ∈ D.fp d ∨ w.heap.size ≤ j
theorem Turn.first {w w0 w' : World} {B d x : Nat} {D D' : Dg} (h : Turn w w' B d x D D') (hb : Below w0.heap.size w0 w) : Turn w0 w' B d x D D' :=
 ⟨h.dct, (Stay.of_below hb _).trans h.stay (fun _ hi => .inl hi), fun j hj => (h.fps j hj).imp id (fun k => Nat.le_trans hb.size k)⟩
theorem Turn.trans {w w1 w2 : World} {B d x : Nat} {D D1 D2 : Dg} (h : Turn w w1 B d x D D1) (k : Turn w1 w2 B d x D1 D2) : Turn w w2 B d x D D2 :=
 ⟨k.dct, h.stay.trans k.stay (fun i hi => h.fps i hi), fun j hj => (k.fps j hj).elim (h.fps j) (fun e => .inr (Nat.le_trans h.stay.size e))⟩
theorem Turn.below {w w' : World} {B d x : Nat} {D D' : Dg} (h : Turn w w' B d x D D') (hD : Dct w B d x D) : Below B w w' :=
 h.stay.below (fun i hi => (hD.fplt i hi).1) (by have := hD.low; have := hD.lt; omega)
theorem Turn.refl {w w' : World} {B d x : Nat} {D : Dg} (h : Dct w B d x D) (hb : Below w.heap.size w w') : Turn w w' B d x D D := ⟨h.keep hb, Stay.of_below hb _, fun _ hj => .inl hj⟩
theorem Dct.turn {w w' w'' : World} {B d x : Nat} {D : Dg} {La Lc : List Lf} {f f' : Lf} (h : Dct w B d x D) (e : D.L = La ++ f :: Lc) (hG : Grew w w' B x f f')
  (hb : w''.heap[d]? = some (.cells #[.int .u64 (x : Nat), .int .i64 ((esL (La ++ f' :: Lc)).length : Nat), .slice (some ⟨D.pb, 0, none⟩) (2 ^ D.g) D.cap] 129 (0, 0))) (hs : Stay w' w'' [d])
  (hown : ∀ e ∈ f'.es, isIn f.pt (hsh x e.1) = true) (hone : f.l < 16 → f'.ts.length = 1) (hful : Ful f') (hle : (esL (La ++ f' :: Lc)).length ≤ 1000000) :
  Turn w w'' B d x D { D with L := La ++ f' :: Lc } := by
 have hpt : f'.pt = f.pt := by unfold Lf.pt; rw [hG.l, hG.q]
 have hnod := h.nod
 rw [e, Bg, Bw] at hnod
 have hlt := h.fplt
 rw [e, Bg, Bw] at hlt
 obtain ⟨n1, n2⟩ := List.nodup_cons.1 hnod
 obtain ⟨n3, n4⟩ := List.nodup_cons.1 n2
 rw [List.nodup_append, List.nodup_append] at n4
 obtain ⟨n5, ⟨n6, n7, n8⟩, n9⟩ := n4
 simp only [List.mem_cons, List.mem_append, not_or] at n1 n3
 have hd' : ∀ k ∈ f'.fp, k ≠ d := fun k hk e => by
  subst e
  rcases hG.fps k hk with h1 | h1
  ·exact n1.2.2.1 h1
  ·have := h.lt; omega
 have hp' : ∀ k ∈ f'.fp, k ≠ D.pb := fun k hk e => by
  subst e
  rcases hG.fps _ hk with h1 | h1
  ·exact n3.2.1 h1
  ·have := hlt D.pb (by simp); omega
 have hS : Stay w w'' (d :: f.fp) := (hG.stay.mono (fun i hi => List.mem_cons_of_mem _ hi)).trans (hs.mono (M' := [d]) (fun i hi => hi)) (fun i hi => .inl (by simp at hi; simp [hi]))
 have hleafs : ∀ u ∈ La ++ f' :: Lc, Leaf w'' B x u := by
  intro u hu
  rcases List.mem_append.1 hu with hu | hu
  ·refine (h.leaf u (by rw [e]; simp [hu])).stay hS (fun k hk => ?_)
   simp only [List.mem_cons, not_or]
   exact ⟨fun e => n1.2.1 (e ▸ B6 hu hk), fun hk2 => n9 k (B6 hu hk) k (by simp [hk2]) rfl⟩
  ·rcases List.mem_cons.1 hu with rfl | hu
   ·exact hG.leaf.stay hs (fun k hk => by simpa using hd' k hk)
   ·refine (h.leaf u (by rw [e]; simp [hu])).stay hS (fun k hk => ?_)
    simp only [List.mem_cons, not_or]
    exact ⟨fun e => n1.2.2.2 (e ▸ B6 hu hk), fun hk2 => n8 k hk2 k (B6 hu hk) rfl⟩
 refine ⟨⟨hb, ?_, hleafs, ?_, ?_, ?_, ?_, ?_, ?_, h.low, h.seed, hle⟩, ?_, ?_⟩
 ·refine OwnR.stay h.row hS (fun k hk => ?_)
  cases hk
  simp only [List.mem_cons, not_or]
  exact ⟨fun e => n1.1 e.symm, n3.2.1⟩
 ·show Shp D.g (shL (La ++ f' :: Lc))
  have := h.shp
  unfold Dg.sh shL at this
  rw [e, List.map_append, List.map_cons] at this
  unfold shL
  rw [List.map_append, List.map_cons, hpt]
  exact this
 ·intro u hu i hi hin
  rcases List.mem_append.1 hu with hu | hu
  ·exact h.dir u (by rw [e]; simp [hu]) i hi hin
  ·rcases List.mem_cons.1 hu with rfl | hu
   ·rw [hG.a]
    rw [hpt] at hin
    exact h.dir f (by rw [e]; simp) i hi hin
   ·exact h.dir u (by rw [e]; simp [hu]) i hi hin
 ·intro u hu
  rcases List.mem_append.1 hu with hu | hu
  ·exact h.own u (by rw [e]; simp [hu])
  ·rcases List.mem_cons.1 hu with rfl | hu
   ·rw [hpt]; exact hown
   ·exact h.own u (by rw [e]; simp [hu])
 ·intro u hu
  rcases List.mem_append.1 hu with hu | hu
  ·exact h.one u (by rw [e]; simp [hu])
  ·rcases List.mem_cons.1 hu with rfl | hu
   ·rw [hG.l]; exact hone
   ·exact h.one u (by rw [e]; simp [hu])
 ·intro u hu
  rcases List.mem_append.1 hu with hu | hu
  ·exact h.ful u (by rw [e]; simp [hu])
  ·rcases List.mem_cons.1 hu with rfl | hu
   ·exact hful
   ·exact h.ful u (by rw [e]; simp [hu])
 ·show (d :: D.pb :: fpL (La ++ f' :: Lc)).Nodup
  rw [Bg, Bw, List.nodup_cons, List.nodup_cons, List.nodup_append, List.nodup_append]
  refine ⟨?_, ?_, n5, ⟨hG.leaf.nod, n7, ?_⟩, ?_⟩
  ·simp only [List.mem_cons, List.mem_append, not_or]
   exact ⟨n1.1, n1.2.1, fun hk => hd' d hk rfl, n1.2.2.2⟩
  ·simp only [List.mem_append, not_or]
   exact ⟨n3.1, fun hk => hp' _ hk rfl, n3.2.2⟩
  ·intro a ha b hb2 e2
   subst e2
   rcases hG.fps a ha with h1 | h1
   ·exact n8 a h1 a hb2 rfl
   ·have := hlt a (by simp [hb2]); omega
  ·intro a ha b hb2 e2
   subst e2
   rcases List.mem_append.1 hb2 with hb2 | hb2
   ·rcases hG.fps a hb2 with h1 | h1
    ·exact n9 a ha a (by simp [h1]) rfl
    ·have := hlt a (by simp [ha]); omega
   ·exact n9 a ha a (by simp [hb2]) rfl
 ·refine hS.mono (fun i hi => ?_)
  unfold Dg.fp
  rw [e, Bg, Bw]
  rcases List.mem_cons.1 hi with rfl | hi
  ·simp
  ·simp [hi]
 ·intro j hj
  change j ∈ d :: D.pb :: fpL (La ++ f' :: Lc) at hj
  unfold Dg.fp
  rw [e]
  rw [Bg, Bw] at hj ⊢
  simp only [List.mem_cons, List.mem_append] at hj ⊢
  rcases hj with hj | hj | hj | hj | hj
  ·exact .inl (.inl hj)
  ·exact .inl (.inr (.inl hj))
  ·exact .inl (.inr (.inr (.inl hj)))
  ·exact (hG.fps j hj).imp (fun h1 => .inr (.inr (.inr (.inl h1)))) id
  ·exact .inl (.inr (.inr (.inr (.inr hj))))
theorem Leaf.made {w1 w2 : World} {B x l a p b G : Nat} {z : List Cl} (q : Nat) (hT : Tab w1 B p b x G z) (hb : Below w1.heap.size w1 w2) (ha : w1.heap.size < a)
  (hblk : w2.heap[a]? = some (.cells #[.int .i64 (l : Nat), .slice (some ⟨w1.heap.size, 0, none⟩) 1 1] 178 (0, 0))) (hrow : OwnP w2 w1.heap.size 125 (some ⟨w1.heap.size, 0, none⟩) 1 1 [p]) (hB : B ≤ w1.heap.size) :
  Leaf w2 B x ⟨l, q, a, w1.heap.size, 1, [⟨p, b, G, z⟩]⟩ := by
 have h1 := hT.top.lt
 have h2 := hT.row.lt
 have h3 := hT.top.ne hT.row
 refine ⟨hblk, OwnR.low hrow hB, ?_, by show B ≤ a; omega, ?_, ?_, Nat.one_pos⟩
 ·intro t ht
  cases List.mem_singleton.1 ht
  exact hT.keep hb
 ·show [a, w1.heap.size, p, b].Nodup
  simp only [List.nodup_cons, List.mem_cons, List.not_mem_nil, or_false, not_or, not_false_eq_true, List.nodup_nil, and_true]
  omega
 ·show (Ae (tsEs [(⟨p, b, G, z⟩ : Tb)])).Nodup
  rw [Bv]
  exact hT.inv.nod
set_option maxHeartbeats 4000000 in
theorem New_dict (x : Nat) (w : World) (hx : x < 18446744073709551616) :
  Calls Tryz.prog 34 #[.int .u64 x] w fun e w' => Below w.heap.size w w' ∧ ∃ d D, e = .returned (ptr d) ∧ Dct w' w.heap.size d x D ∧ D.g = 0 ∧ D.sh = [(0, 0)] ∧ D.es = [] := by
 have HN := New_tab x w hx
 have HX : Hid (x < 18446744073709551616) := hx
 clear hx
 go_enter Tryz.func34, Tryz.ntmps34
 go_wp2_with fail
 refine HN.mono ?_
 rintro e w1 ⟨hb1, p, b, rfl, hT1, -⟩
 have HB1 : Hid (Below w.heap.size w w1) := hb1
 have HT1 : Hid (Tab w1 w.heap.size p b x 1 (Be 1)) := hT1
 have hL := newLeaf_any 0 p w1
 clear hb1 hT1 HN
 go_wp2_with fail
 refine hL.mono ?_
 rintro e w2 ⟨hb2, a, rfl, ha, hal, hblk, hrow⟩
 have HB2 := Ad HB1 hb2
 have HL2 : Hid (Leaf w2 w.heap.size x ⟨0, 0, a, w1.heap.size, 1, [⟨p, b, 1, Be 1⟩]⟩) := Leaf.made 0 HT1.out hb2 ha hblk hrow HB1.out.size
 clear hb2 ha hal hblk hrow hL
 obtain ⟨w3, hw3⟩ : ∃ w3, w2.alloc (.cells #[ptr a] 123) = w3 := ⟨_, rfl⟩
 have HB3' : Hid (Below w2.heap.size w2 w3) := by show Below _ _ _; rw [← hw3]; exact Ac w2 _
 have HS3 : Hid (w3.heap.size = w2.heap.size + 1) := by show _ = _; rw [← hw3]; exact size_alloc w2 _
 have HO3 : Hid (OwnP w3 w2.heap.size 123 (some ⟨w2.heap.size, 0, none⟩) 1 1 [a]) := by
  show OwnP _ _ _ _ _ _ _
  rw [← hw3]
  exact ⟨rfl, .inr ⟨w2.heap.size, 1, #[ptr a], rfl, Nat.le_refl _, heap_alloc_new w2 _, Nat.le_refl _, by decide, rfl, rfl⟩⟩
 obtain ⟨w4, hw4⟩ : ∃ w4, w3.alloc (.cells #[.int .u64 (x : Nat), .int .i64 0, .slice (some ⟨w2.heap.size, 0, none⟩) 1 1] 129) = w4 := ⟨_, rfl⟩
 have HB4' : Hid (Below w3.heap.size w3 w4) := by show Below _ _ _; rw [← hw4]; exact Ac w3 _
 have HK4 : Hid (w4.heap[w3.heap.size]? = some (.cells #[.int .u64 (x : Nat), .int .i64 0, .slice (some ⟨w2.heap.size, 0, none⟩) 1 1] 129 (0, 0))) := by show _ = _; rw [← hw4]; exact heap_alloc_new w3 _
 have HB3 := Ad HB2 HB3'.out
 have HB4 := Ad HB3 HB4'.out
 go_wp2
 go_ret
 refine ⟨HB4.out, w3.heap.size, ⟨0, w2.heap.size, 1, [a], [⟨0, 0, a, w1.heap.size, 1, [⟨p, b, 1, Be 1⟩]⟩]⟩, rfl, ?_, rfl, rfl, ?_⟩
 ·have hL4 : Leaf w4 w.heap.size x ⟨0, 0, a, w1.heap.size, 1, [⟨p, b, 1, Be 1⟩]⟩ := (HL2.out.keep HB3'.out).keep HB4'.out
  have hes : esL [(⟨0, 0, a, w1.heap.size, 1, [⟨p, b, 1, Be 1⟩]⟩ : Lf)] = [] := by rw [esL_one]; show tsEs _ = []; rw [Bv]; exact A9 1
  have hfl := HL2.out.fplt
  have hs2 := HB2.out.size
  have hs3 := HS3.out
  refine ⟨?_, OwnR.low (OwnR.keep HO3.out HB4'.out) HB2.out.size, ?_, Shp.new, ?_, ?_, ?_, ?_, ?_, HB3.out.size, HX.out, ?_⟩
  ·show w4.heap[w3.heap.size]? = some (.cells #[.int .u64 (x : Nat), .int .i64 ((esL [(⟨0, 0, a, w1.heap.size, 1, [⟨p, b, 1, Be 1⟩]⟩ : Lf)]).length : Nat), .slice (some ⟨w2.heap.size, 0, none⟩) (2 ^ 0) 1] 129 (0, 0))
   rw [hes]
   exact HK4.out
  ·intro f hf
   cases List.mem_singleton.1 hf
   exact hL4
  ·intro f hf i hi _
   cases List.mem_singleton.1 hf
   obtain rfl : i = 0 := by simp at hi; exact hi
   rfl
  ·intro f hf e he
   have : e ∈ esL [(⟨0, 0, a, w1.heap.size, 1, [⟨p, b, 1, Be 1⟩]⟩ : Lf)] := mem_esL hf he
   rw [hes] at this
   cases this
  ·intro f hf _
   cases List.mem_singleton.1 hf
   rfl
  ·intro f hf
   cases List.mem_singleton.1 hf
   exact .inl rfl
  ·show (w3.heap.size :: w2.heap.size :: fpL [(⟨0, 0, a, w1.heap.size, 1, [⟨p, b, 1, Be 1⟩]⟩ : Lf)]).Nodup
   rw [Bw, List.nodup_cons, List.nodup_cons]
   have e0 : fpL ([] : List Lf) = [] := rfl
   rw [e0, List.append_nil]
   refine ⟨?_, ?_, HL2.out.nod⟩
   ·rw [List.mem_cons, not_or]
    exact ⟨by omega, fun h => by have := (hfl _ h).2; omega⟩
   ·exact fun h => by have := (hfl _ h).2; omega
  ·show (esL _).length ≤ _
   rw [hes]
   decide
 ·show esL _ = []
  rw [esL_one]; show tsEs _ = []; rw [Bv]; exact A9 1
theorem Dct.siz {w : World} {B d x : Nat} {D : Dg} (h : Dct w B d x D) : ∀ e ∈ D.es, e.1.size ≤ maxLen := by
 intro e he
 obtain ⟨f, hf, he⟩ := List.mem_flatMap.1 he
 obtain ⟨t, ht, he⟩ := List.mem_flatMap.1 he
 exact ((h.leaf f hf).tab t ht).siz e he
theorem Dct.apart {w : World} {B d x : Nat} {D : Dg} (h : Dct w B d x D) {f : Lf} (hf : f ∈ D.L) : d ∉ f.fp := by
 intro hd
 have := (List.nodup_cons.1 h.nod).1
 exact this (List.mem_cons_of_mem _ (B6 hf hd))
set_option maxHeartbeats 4000000 in
theorem PutD_old (B d x : Nat) (D : Dg) (k : ByteArray) (u v : (Option Addr)) (w : World) (hD : Dct w B d x D) (hk : (k, u) ∈ D.es) :
  Calls Tryz.prog 85 #[ptr d, .string k, .pointer v] w fun e w' => e = .returned (.int .i64 0) ∧ ∃ D', Turn w w' B d x D D' ∧ D'.g = D.g ∧ D'.sh = D.sh ∧ ∃ A C, D.es = A ++ (k, u) :: C ∧ D'.es = A ++ (k, v) :: C := by
 have hks := hD.siz _ hk
 obtain ⟨La, f, Lc, eL, hi, h2, h3⟩ := hD.parts (hsh x k)
 have hf : f ∈ D.L := by rw [eL]; simp
 have hkf : (k, u) ∈ f.es := (hD.mem eL h2 h3).1 hk
 have HKf : Hid ((k, u) ∈ f.es) := hkf
 have HD : Hid (Dct w B d x D) := hD
 have HeL : Hid (D.L = La ++ f :: Lc) := eL
 have Hf : Hid (f ∈ D.L) := hf
 have hc := hD.cseed
 have HOf := fun w => Of_hsh x k w hks hD.seed
 have HLf := fun w hD => A8 B d x D f (hsh x k) w hD hf hi (Cq x k)
 have HHo := fun w hL => holder_yes B x f k w hL hks (List.mem_map.2 ⟨_, hkf, rfl⟩)
 have HKS : Hid (k.size ≤ maxLen) := hks
 generalize hsh x k = h at HOf HLf
 clear hD hk hks hi h2 h3 eL hf hkf
 go_enter Tryz.func85, Tryz.ntmps85
 go_wp2_with fail
 refine (HOf _).mono ?_
 rintro e w ⟨rfl, rfl⟩
 go_wp2_with fail
 refine (HLf _ HD.out).mono ?_
 rintro e w1 ⟨rfl, hb1⟩
 have HB1 : Hid (Below w.heap.size w w1) := hb1
 have hHo := HHo _ ((HD.out.keep hb1).leaf f Hf.out)
 clear HOf HLf HHo hb1
 go_wp2_with fail
 refine hHo.mono ?_
 rintro e w2 ⟨hb2, t, rfl, htm, hk2⟩
 have HB2 := Ad HB1 hb2
 have HL2 : Hid (Leaf w2 B x f) := (HD.out.keep HB2.out).leaf f Hf.out
 have Htm : Hid (t ∈ f.ts) := htm
 have hP := Put_old _ _ _ _ _ _ k v _ (HL2.out.tab t htm) HKS.out hk2
 clear hb2 htm hk2 hHo HB1
 go_wp2_with fail
 refine hP.mono ?_
 rintro e w3 ⟨rfl, hm3, z3, hT3, a3, c3, u3, hz, hz3⟩
 have HR : Hid (∃ D', Turn w w3 B d x D D' ∧ D'.g = D.g ∧ D'.sh = D.sh ∧ ∃ A C, D.es = A ++ (k, u) :: C ∧ D'.es = A ++ (k, v) :: C) := by
  obtain ⟨pre, post, ets⟩ := List.append_of_mem Htm.out
  have hu : u3 = u := by
   refine val_one HL2.out.key (k := k) ?_ HKf.out
   refine List.mem_flatMap.2 ⟨t, Htm.out, ?_⟩
   show _ ∈ ents t.z
   rw [hz]; simp
  subst hu
  have e1 : f.es = (tsEs pre ++ a3) ++ (k, u3) :: (c3 ++ tsEs post) := by
   unfold Lf.es
   rw [ets, Am, Bh]
   unfold Tb.es
   rw [hz]
   simp
  have e2 : tsEs (pre ++ ⟨t.p, t.b, t.G, z3⟩ :: post) = (tsEs pre ++ a3) ++ (k, v) :: (c3 ++ tsEs post) := by
   rw [Am, Bh]
   unfold Tb.es
   rw [hz3]
   simp
  have hkn : (Ae (tsEs (pre ++ ⟨t.p, t.b, t.G, z3⟩ :: post))).Nodup := by
   have := HL2.out.key
   rw [e1] at this
   rw [e2]
   simpa [Ae] using this
  obtain ⟨k1, k2, k3⟩ := HL2.out.turn ets (Stay.of_moves hm3) hT3 (.inl rfl) hkn
  have hG : Grew w2 w3 B x f { f with ts := pre ++ ⟨t.p, t.b, t.G, z3⟩ :: post } := ⟨k1, k3, k2, rfl, rfl, rfl⟩
  have hD2 := HD.out.keep HB2.out
  have el : (esL (La ++ { f with ts := pre ++ ⟨t.p, t.b, t.G, z3⟩ :: post } :: Lc)).length = D.es.length := by
   unfold Dg.es
   rw [HeL.out, Aq, Aq, Ax, Ax, e1]
   simp only [Lf.es, e2]
   simp
  have hT := hD2.turn HeL.out hG (w'' := w3) (by rw [el, k3.block d hD2.lt (hD2.apart Hf.out)]; exact hD2.blk) (Stay.of_below (Below.refl _ _) _) ?_ ?_ ?_ (by rw [el]; exact hD2.le)
  ·refine ⟨_, hT.first HB2.out, rfl, ?_, esL La ++ (tsEs pre ++ a3), (c3 ++ tsEs post) ++ esL Lc, ?_, ?_⟩
   ·unfold Dg.sh shL
    rw [HeL.out, List.map_append, List.map_append]
    rfl
   ·unfold Dg.es
    rw [HeL.out, Aq, Ax, e1]
    simp
   ·show esL _ = _
    rw [Aq, Ax]
    show esL La ++ (tsEs _ ++ _) = _
    rw [e2]
    simp
  ·intro e he
   have he2 : e ∈ tsEs (pre ++ ⟨t.p, t.b, t.G, z3⟩ :: post) := he
   rw [e2] at he2
   have ho := HD.out.own f Hf.out
   rw [e1] at ho
   rcases List.mem_append.1 he2 with he2 | he2
   ·exact ho e (List.mem_append.2 (.inl he2))
   ·rcases List.mem_cons.1 he2 with rfl | he2
    ·exact ho (k, u3) (by simp)
    ·exact ho e (List.mem_append.2 (.inr (List.mem_cons_of_mem _ he2)))
  ·intro hl
   have := HD.out.one f Hf.out hl
   rw [ets] at this
   simp at this ⊢
   omega
  ·rcases HD.out.ful f Hf.out with h1 | h1
   ·refine .inl ?_
    rw [ets] at h1
    simp at h1 ⊢
    omega
   ·refine .inr fun y hy => ?_
    rcases List.mem_append.1 hy with hy | hy
    ·exact h1 y (by rw [ets]; simp [hy])
    ·rcases List.mem_cons.1 hy with rfl | hy
     ·show 0 < (ents z3).length
      rw [hz3, List.length_append, List.length_cons]; omega
     ·exact h1 y (by rw [ets]; simp [hy])
 clear hm3 hT3 hz hz3 hP
 go_wp2
 go_ret
 exact ⟨rfl, HR.out⟩
theorem DeleteD_no (B d x : Nat) (D : Dg) (k : ByteArray) (w : World) (hD : Dct w B d x D) (hks : k.size ≤ maxLen) (hk : k ∉ Ae D.es) :
  Calls Tryz.prog 94 #[ptr d, .string k] w fun e w' => e = .returned (.bool false) ∧ Below w.heap.size w w' := by
 obtain ⟨La, f, Lc, eL, hi, h2, h3⟩ := hD.parts (hsh x k)
 have hf : f ∈ D.L := by rw [eL]; simp
 have HD : Hid (Dct w B d x D) := hD
 have Hf : Hid (f ∈ D.L) := hf
 have hc := hD.cseed
 have HOf := fun w => Of_hsh x k w hks hD.seed
 have HLf := fun w hD => A8 B d x D f (hsh x k) w hD hf hi (Cq x k)
 have HRe := fun w hL => remove_no B x f k w hL hks (fun h => hk ((hD.memk eL h2 h3).2 h))
 generalize hsh x k = h at HOf HLf
 clear hD hk hks hi h2 h3 eL hf
 go_enter Tryz.func94, Tryz.ntmps94
 go_wp2_with fail
 refine (HOf _).mono ?_
 rintro e w ⟨rfl, rfl⟩
 go_wp2_with fail
 refine (HLf _ HD.out).mono ?_
 rintro e w1 ⟨rfl, hb1⟩
 have HB1 : Hid (Below w.heap.size w w1) := hb1
 have hRe := HRe _ ((HD.out.keep hb1).leaf f Hf.out)
 clear HOf HLf HRe hb1
 go_wp2_with fail
 refine hRe.mono ?_
 rintro e w2 ⟨rfl, hb2⟩
 have HB2 := Ad HB1 hb2
 clear hb2 hRe
 go_wp2
 go_ret
 exact ⟨rfl, HB2.out⟩
set_option maxHeartbeats 4000000 in
theorem DeleteD_yes (B d x : Nat) (D : Dg) (k : ByteArray) (w : World) (hD : Dct w B d x D) (hk : k ∈ Ae D.es) :
  Calls Tryz.prog 94 #[ptr d, .string k] w fun e w' => e = .returned (.bool true) ∧ ∃ D', Turn w w' B d x D D' ∧ D'.g = D.g ∧ D'.sh = D.sh ∧ ∃ u, D.es.Perm ((k, u) :: D'.es) := by
 obtain ⟨⟨k', u0⟩, hku, rfl⟩ := List.mem_map.1 hk
 have hks := hD.siz _ hku
 obtain ⟨La, f, Lc, eL, hi, h2, h3⟩ := hD.parts (hsh x k')
 have hf : f ∈ D.L := by rw [eL]; simp
 have HD : Hid (Dct w B d x D) := hD
 have HeL : Hid (D.L = La ++ f :: Lc) := eL
 have Hf : Hid (f ∈ D.L) := hf
 have hc := hD.cseed
 have HOf := fun w => Of_hsh x k' w hks hD.seed
 have HLf := fun w hD => A8 B d x D f (hsh x k') w hD hf hi (Cq x k')
 have HRe := fun w hL => remove_yes B x f k' w hL hks ((hD.memk eL h2 h3).1 hk)
 generalize hsh x k' = h at HOf HLf
 clear hD hk hks hi h2 h3 eL hf hku
 go_enter Tryz.func94, Tryz.ntmps94
 go_wp2_with fail
 refine (HOf _).mono ?_
 rintro e w ⟨rfl, rfl⟩
 go_wp2_with fail
 refine (HLf _ HD.out).mono ?_
 rintro e w1 ⟨rfl, hb1⟩
 have HB1 : Hid (Below w.heap.size w w1) := hb1
 have hRe := HRe _ ((HD.out.keep hb1).leaf f Hf.out)
 clear HOf HLf HRe hb1
 go_wp2_with fail
 refine hRe.mono ?_
 rintro e w2 ⟨rfl, f', hG, ⟨u, hp⟩, hone, hful⟩
 have hD1 := HD.out.keep HB1.out
 have hblk : w2.heap[d]? = w1.heap[d]? := hG.stay.block d hD1.lt (hD1.apart Hf.out)
 have hc2 : w2.cell? ⟨d, 1, none⟩ = some (.int .i64 (D.es.length : Nat)) := by rw [World.cell?_of_block hblk]; exact hD1.ccnt
 have hf2 : w2.frozen? ⟨d, 1, none⟩ = false := by have := hD1.blk; rw [← hblk] at this; simp [World.frozen?, this]
 have hPm : D.es.Perm ((k', u) :: esL (La ++ f' :: Lc)) := by
  unfold Dg.es
  rw [HeL.out, Aq, Aq, Ax, Ax]
  refine (List.Perm.append_left _ (hp.append_right _)).trans ?_
  exact List.perm_middle
 have hlen : (esL (La ++ f' :: Lc)).length + 1 = D.es.length := by rw [hPm.length_eq]; rfl
 have hle := HD.out.le
 have HR : Hid (∃ D', Turn w (w2.setCell ⟨d, 1, none⟩ (.int .i64 ((esL (La ++ f' :: Lc)).length : Nat))) B d x D D' ∧ D'.g = D.g ∧ D'.sh = D.sh ∧ ∃ u, D.es.Perm ((k', u) :: D'.es)) := by
  have hT := hD1.turn HeL.out hG (w'' := w2.setCell ⟨d, 1, none⟩ (.int .i64 ((esL (La ++ f' :: Lc)).length : Nat))) (by have := hD1.blk; rw [← hblk] at this; rw [Ak this]; rfl) Stay.set ?_ ?_ ?_ (by omega)
  ·refine ⟨_, hT.first HB1.out, rfl, ?_, u, hPm⟩
   have : f'.pt = f.pt := by unfold Lf.pt; rw [hG.l, hG.q]
   unfold Dg.sh shL
   rw [HeL.out, List.map_append, List.map_append, List.map_cons, List.map_cons, this]
  ·intro e he
   exact HD.out.own f Hf.out e (hp.mem_iff.2 (List.mem_cons_of_mem _ he))
  ·intro hl
   exact hone (HD.out.one f Hf.out hl)
  ·exact hful (HD.out.ful f Hf.out)
 generalize hn : (esL (La ++ f' :: Lc)).length = n at hlen HR
 generalize D.es.length = m at hlen hc2 hle
 have hnz : (m : Int) - 1 = (n : Nat) := by omega
 clear hG hp hone hful hD1 hblk hPm hRe hn
 go_wp2
 go_ret
 exact ⟨rfl, HR.out⟩
end Go.Proofs.YtmjeljldmmkcpaaGreat.Dk

/- Texts that the others stand on. -/
import Derived.Test.YtmjeljldmmkcpaaGreatK34
set_option maxRecDepth 100000
set_option maxHeartbeats 1600000
namespace Go.Proofs.YtmjeljldmmkcpaaGreat.Sq
open Go.RowKit Go.PlainAid
open Dk (ptr Aa Ac Ad Af OwnR OwnP OwnS Mv Am Elt A4)
def updR (rows : List Kr) (k : BA) (f : Kr → Kr) : List Kr := rows.map fun q => if q.nm = k then f q else q
theorem Cs {rows : List Kr} (hn : (rows.map (·.nm)).Nodup) {i : Nat} {r : Kr} (hr : rows[i]? = some r) {k : BA} (hk : r.nm = k) (f : Kr → Kr) : rows.set i (f r) = updR rows k f := by
 apply List.ext_getElem?
 intro j
 unfold updR
 rw [List.getElem?_map, List.getElem?_set]
 by_cases h : i = j
 ·subst h
  rw [if_pos rfl, if_pos (B1 hr), hr]
  simp [hk]
 ·rw [if_neg h]
  cases hj : rows[j]? with
  | none => rfl
  | some q =>
   have hne : q.nm ≠ k := fun e => h (by
    have h1 : (rows.map (·.nm))[i]? = some k := by rw [List.getElem?_map, hr]; simp [hk]
    have h2 : (rows.map (·.nm))[j]? = some k := by rw [List.getElem?_map, hj]; simp [e]
    exact (List.getElem?_inj (by rw [List.length_map]; exact B1 hr) hn).1 (h1.trans h2.symm))
   simp [hne]
theorem LowM.due {rows : List Kr} (h : LowM rows) (t : Int) : ∀ r ∈ dueR t rows, 0 ≤ r.ver ∧ r.ver < 4611686018427387901 := fun r hr => by
 obtain ⟨q, hq, rfl⟩ := List.mem_map.1 hr
 have := h q hq
 unfold dueK
 split
 ·exact ⟨by show 0 ≤ q.ver + 1; omega, by show q.ver + 1 < _; omega⟩
 ·exact ⟨this.1, by omega⟩
def Bc (rows : List Kr) (k : BA) : Bool := rows.any fun r => decide (r.nm = k) && r.th
theorem thereR_yes {rows : List Kr} {i : Nat} {r : Kr} {k : BA} (hr : rows[i]? = some r) (hk : r.nm = k) (ht : r.th = true) : Bc rows k = true := by
 unfold Bc
 rw [List.any_eq_true]
 exact ⟨r, List.mem_of_getElem? hr, by simp [hk, ht]⟩
theorem Ct {rows : List Kr} {k : BA} (h : ∀ r ∈ rows, r.nm = k → r.th = false) : Bc rows k = false := by
 unfold Bc
 rw [List.any_eq_false]
 intro r hr hd
 simp at hd
 rw [h r hr hd.1] at hd
 exact absurd hd.2 (by decide)
def delR (rows : List Kr) (k : BA) : List Kr := if Bc rows k = true then updR rows k (fun q => Kr.off k (q.ver + 1)) else rows
theorem DeleteM_any (w : World) (B m : Nat) (rows : List Kr) (k : BA) (t : Int) (H : Md w B m rows) (hv : LowM rows) :
  Calls Tryz.prog 54 #[ptr m, .string k, .int .i64 t] w fun e w' => e = .returned (.bool (Bc (dueR t rows) k)) ∧ MTo w w' B m (delR (dueR t rows) k) := by
 have HA := At_any w B m rows k t H hv
 have HV := hv.due t
 clear H
 go_enter Tryz.func54, Tryz.ntmps54
 go_wp2_with fail
 refine HA.mono ?_
 rintro e w1 ⟨⟨hm1, hd1⟩, ⟨i, r, rfl, hr, hk, hth⟩ | ⟨rfl, hno⟩⟩
 ·obtain ⟨rs, hrs⟩ : ∃ rs, dueR t rows = rs := ⟨_, rfl⟩
  rw [hrs] at hd1 hr HV
  have HD : Hid (Md w1 B m rs) := hd1
  have HM : Hid (Mb mtag B w w1) := hm1
  have HRS : Hid (dueR t rows = rs) := hrs
  have hfew := hd1.few
  have hlt := B1 hr
  obtain ⟨g, c, hha, ⟨m0, m1, m2, m3, m4, m5, m6, m7, m8⟩, hfa⟩ := hd1.fx hr
  have hvr := HV r (List.mem_of_getElem? hr)
  have hv1 := hvr.1
  have hv2 := hvr.2
  obtain ⟨n, hn⟩ : ∃ n, rs.length = n := ⟨_, rfl⟩
  rw [hn] at hha hlt hfew
  have hiz : (i : Int) < n := by omega
  have hi9 : i * 9 ≤ 9000 := by omega
  have hneg : decide ((i : Int) < 0) = false := decide_eq_false (by omega)
  have hhd : w1.drew.cell? ⟨m, 0, none⟩ = some (.slice (some ⟨g, 0, none⟩) n c) := hha
  have n8 : w1.drew.cell? ⟨g, i * 9 + 8, none⟩ = some (.int .u64 r.ver) := m8
  have hfd : ∀ o, w1.drew.frozen? ⟨g, o, none⟩ = false := hfa
  have HT : Hid (Bc (dueR t rows) k = true) := by show _ = _; rw [hrs]; exact thereR_yes hr hk hth
  have HS : Hid (∀ wz, wz = w1.setCells g (i * 9) (Kr.off k (r.ver + 1)).cells → Md wz B m (delR (dueR t rows) k) ∧ Mb mtag B w1 wz) := fun wz hz => by
   have h := HD.out.set (i := i) (by rw [hn]; omega) (by rw [hn]; exact hha) (r := Kr.off k (r.ver + 1)) (by rw [nm_get hr]; exact hk.symm) (RdL.nil _) ⟨by show 0 ≤ r.ver + 1; omega, by show r.ver + 1 < _; omega⟩ hz
   rw [Cs HD.out.nod hr hk (fun q => Kr.off k (q.ver + 1))] at h
   unfold delR
   rw [HT.out, if_pos rfl, HRS.out]
   exact h
  clear hd1 hm1 hrs hr hk hth HA hvr
  go_upto_region 4 with fail
  go_region
  obtain ⟨wz, hwz⟩ : ∃ wz, w1.setCells g (i * 9) (Kr.off k (r.ver + 1)).cells = wz := ⟨_, rfl⟩
  obtain ⟨hz1, hz2⟩ := HS.out wz hwz.symm
  have HE : Hid (MTo w wz.drew B m (delR (dueR t rows) k)) := ⟨(HM.out.trans hz2).trans (Mb.of_below (Aa wz 1) hz1.lt), hz1.keep (Aa wz 1)⟩
  subst hwz
  clear hz1 hz2
  go_wp2
  go_ret
  exact ⟨by rw [HT.out]; rfl, HE.out⟩
 ·have HT : Hid (Bc (dueR t rows) k = false) := Ct hno
  have HE : Hid (MTo w w1 B m (delR (dueR t rows) k)) := by
   show MTo w w1 B m _
   unfold delR
   rw [HT.out, if_neg (by decide)]
   exact ⟨hm1, hd1⟩
  clear hm1 hd1 hno HA
  go_wp2
  go_ret
  exact ⟨by rw [HT.out]; rfl, HE.out⟩
def endR (rows : List Kr) (k : BA) : Option Int := ((rows.find? fun r => decide (r.nm = k)).bind fun r => if r.th && r.en then some r.at' else none)
theorem find_row {rows : List Kr} (hn : (rows.map (·.nm)).Nodup) {i : Nat} {r : Kr} {k : BA} (hr : rows[i]? = some r) (hk : r.nm = k) : (rows.find? fun r => decide (r.nm = k)) = some r := by
 have h1 : (rows.find? fun r => decide (r.nm = k)).isSome = true := by rw [List.find?_isSome]; exact ⟨r, List.mem_of_getElem? hr, by simp [hk]⟩
 obtain ⟨q, hq⟩ := Option.isSome_iff_exists.1 h1
 have h2 : q.nm = k := by simpa using List.find?_some hq
 obtain ⟨j, hj⟩ := List.mem_iff_getElem?.1 (List.mem_of_find?_eq_some hq)
 have h3 : (rows.map (·.nm))[i]? = some k := by rw [List.getElem?_map, hr]; simp [hk]
 have h4 : (rows.map (·.nm))[j]? = some k := by rw [List.getElem?_map, hj]; simp [h2]
 have h5 := (List.getElem?_inj (by rw [List.length_map]; exact B1 hr) hn).1 (h3.trans h4.symm)
 subst h5
 rw [hr] at hj
 rw [hq, hj]
theorem endR_no {rows : List Kr} {k : BA} (h : ∀ r ∈ rows, r.nm = k → r.th = false) : endR rows k = none := by
 unfold endR
 cases hf : rows.find? fun r => decide (r.nm = k) with
 | none => rfl
 | some q =>
  have h1 := h q (List.mem_of_find?_eq_some hf) (by simpa using List.find?_some hf)
  simp [h1]
theorem ExpiryM_any (w : World) (B m : Nat) (rows : List Kr) (k : BA) (t : Int) (H : Md w B m rows) (hv : LowM rows) :
  Calls Tryz.prog 70 #[ptr m, .string k, .int .i64 t] w fun e w' => e = .returned (.tuple #[.int .i64 ((endR (dueR t rows) k).getD 0), .bool (endR (dueR t rows) k).isSome]) ∧ MTo w w' B m (dueR t rows) := by
 have HA := At_any w B m rows k t H hv
 clear H
 go_enter Tryz.func70, Tryz.ntmps70
 go_wp2_with fail
 refine HA.mono ?_
 rintro e w1 ⟨hM, ⟨i, r, rfl, hr, hk, hth⟩ | ⟨rfl, hno⟩⟩
 ·have HE : Hid (MTo w w1 B m (dueR t rows)) := hM
  have hd1 := hM.md
  have hfew := hd1.few
  have hlt := B1 hr
  obtain ⟨g, c, hha, ⟨m0, m1, m2, m3, m4, m5, m6, m7, m8⟩, hfa⟩ := hd1.fx hr
  obtain ⟨n, hn⟩ : ∃ n, (dueR t rows).length = n := ⟨_, rfl⟩
  rw [hn] at hha hlt hfew
  have hiz : (i : Int) < n := by omega
  have hi9 : i * 9 ≤ 9000 := by omega
  have hneg : decide ((i : Int) < 0) = false := decide_eq_false (by omega)
  have HEn : Hid (endR (dueR t rows) k = if r.en then some r.at' else none) := by
   show endR _ _ = _
   unfold endR
   rw [find_row hd1.nod hr hk]
   simp [hth]
  clear hM hd1 hr hk hth HA m0 m1 m2 m3 m4 m5 m8 hfa
  cases hen : r.en with
  | true =>
   rw [hen] at m7 HEn
   clear hen
   go_wp2
   go_ret2
   exact ⟨by rw [HEn.out]; rfl, HE.out⟩
  | false =>
   rw [hen] at m7 HEn
   clear hen
   go_wp2
   go_ret2
   exact ⟨by rw [HEn.out]; rfl, HE.out⟩
 ·have HE : Hid (MTo w w1 B m (dueR t rows)) := hM
  have HEn : Hid (endR (dueR t rows) k = none) := endR_no hno
  clear hM hno HA
  go_wp2
  go_ret2
  exact ⟨by rw [HEn.out]; rfl, HE.out⟩
theorem kcells_set1 (rows : List Kr) (i j : Nat) (r r' : Kr) (v : Value) (hr : rows[i]? = some r) (hj : j < 9) (hc : r'.cells = r.cells.set j v) : Bm (rows.set i r') = (Bm rows).set (i * 9 + j) v := by
 induction rows generalizing i with
 | nil => cases hr
 | cons q rows ih =>
  cases i with
  | zero =>
   cases hr
   show r'.cells ++ Bm rows = (r.cells ++ Bm rows).set (0 * 9 + j) v
   rw [Nat.zero_mul, Nat.zero_add, List.set_append_left _ _ (by show j < 9; exact hj), hc]
  | succ i =>
   show q.cells ++ Bm (rows.set i r') = (q.cells ++ Bm rows).set ((i + 1) * 9 + j) v
   rw [List.set_append_right _ _ (by show 9 ≤ _; omega), ih i hr]
   congr 2
   show _ = (i + 1) * 9 + j - 9
   omega
theorem Md.cell1 {w : World} {B m : Nat} {rows : List Kr} (H : Md w B m rows) {i g c j : Nat} {r r' : Kr} {v : Value} (hr : rows[i]? = some r) (hg : w.cell? ⟨m, 0, none⟩ = some (.slice (some ⟨g, 0, none⟩) rows.length c)) (hn : r'.nm = r.nm) (hl : RdL w r'.la r'.ln r'.lc r'.ls) (hv : 0 ≤ r'.ver ∧ r'.ver < 4611686018427387904) (hj : j < 9) (hc : r'.cells = r.cells.set j v) {w' : World} (hw : w' = w.setCell ⟨g, i * 9 + j, none⟩ v) : Md w' B m (rows.set i r') ∧ Mb mtag B w w' ∧ w'.cell? ⟨m, 0, none⟩ = some (.slice (some ⟨g, 0, none⟩) rows.length c) := by
 obtain ⟨a, c', h1, h2⟩ := H.ex
 have hi := B1 hr
 have e : (Value.slice a rows.length c') = .slice (some ⟨g, 0, none⟩) rows.length c := by
  have : w.cell? ⟨m, 0, none⟩ = some (.slice a rows.length c') := by simp [World.cell?, h1]
  rw [hg] at this
  injection this with this
  exact this.symm
 injection e with e1 e2 e3
 subst e1
 subst e3
 have hmap : (rows.set i r').map (·.nm) = rows.map (·.nm) := by
  rw [List.map_set, hn, ← nm_get hr]
  have hi' : i < (rows.map (·.nm)).length := by rw [List.length_map]; exact hi
  rw [List.getD_eq_getElem?_getD, List.getElem?_eq_getElem hi']
  exact List.set_getElem_self hi'
 rcases h2.2 with ⟨h3, h4⟩ | ⟨g', c'', cur, h3, h4, h5, h6, h7, h8, h9⟩
 ·cases h3
 ·cases h3
  have hlen := kcells_len rows
  have hgm : m ≠ g := Bj h1 h5 (by decide)
  have hM : Mb mtag B w w' := by rw [hw]; exact Mb.set h5 (by decide) h4
  have hq' : ∀ q ∈ rows.set i r', q ∈ rows ∨ q = r' := fun q hq => List.mem_or_eq_of_mem_set hq
  have hm' : w'.heap[m]? = some (.cells #[.slice (some ⟨g, 0, none⟩) rows.length c'] 104 (0, 0)) := by rw [hw, Ar hgm]; exact h1
  refine ⟨⟨⟨some ⟨g, 0, none⟩, c', by rw [List.length_set]; exact hm', ?_⟩, fun q hq => ?_, by rw [hmap]; exact H.nod, by rw [List.length_set]; exact H.few, fun q hq => ?_, H.low⟩, hM, by simp [World.cell?, hm']⟩
  ·rw [List.length_set, kcells_set1 rows i j r r' v hr hj hc, hw]
   refine ⟨by rw [List.length_set]; exact hlen, .inr ⟨g, c', cur.setIfInBounds (i * 9 + j) v, rfl, h4, Ak h5, h6, h7, by rw [Array.size_setIfInBounds]; exact h8, ?_⟩⟩
   have h10 : cur.toList.take (rows.length * 9) = Bm rows := h9
   rw [← h10, Array.toList_setIfInBounds, List.take_set]
  ·rcases hq' q hq with h | rfl
   ·exact (H.lst q h).mv hM.mv (by decide)
   ·exact hl.mv hM.mv (by decide)
  ·rcases hq' q hq with h | rfl
   ·exact H.vle q h
   ·exact hv
def perK (q : Kr) : Kr := { q with at' := 0, en := false, ver := q.ver + 1 }
def perR (rows : List Kr) (k : BA) : List Kr := if (endR rows k).isSome = true then updR rows k perK else rows
theorem set_get {rows : List Kr} {i : Nat} {r x : Kr} (hr : rows[i]? = some r) : (rows.set i x)[i]? = some x := by rw [List.getElem?_set_self (B1 hr)]
theorem PersistM_any (w : World) (B m : Nat) (rows : List Kr) (k : BA) (t : Int) (H : Md w B m rows) (hv : LowM rows) :
  Calls Tryz.prog 57 #[ptr m, .string k, .int .i64 t] w fun e w' => e = .returned (.bool (endR (dueR t rows) k).isSome) ∧ MTo w w' B m (perR (dueR t rows) k) := by
 have HA := At_any w B m rows k t H hv
 have HV := hv.due t
 clear H
 go_enter Tryz.func57, Tryz.ntmps57
 go_wp2_with fail
 refine HA.mono ?_
 rintro e w1 ⟨⟨hm1, hd1⟩, ⟨i, r, rfl, hr, hk, hth⟩ | ⟨rfl, hno⟩⟩
 ·obtain ⟨rs, hrs⟩ : ∃ rs, dueR t rows = rs := ⟨_, rfl⟩
  rw [hrs] at hd1 hr HV
  have HD : Hid (Md w1 B m rs) := hd1
  have HM : Hid (Mb mtag B w w1) := hm1
  have HRS : Hid (dueR t rows = rs) := hrs
  have hfew := hd1.few
  have hlt := B1 hr
  obtain ⟨g, c, hha, ⟨m0, m1, m2, m3, m4, m5, m6, m7, m8⟩, hfa⟩ := hd1.fx hr
  have hvr := HV r (List.mem_of_getElem? hr)
  have hv1 := hvr.1
  have hv2 := hvr.2
  obtain ⟨n, hn⟩ : ∃ n, rs.length = n := ⟨_, rfl⟩
  rw [hn] at hha hlt hfew
  have hiz : (i : Int) < n := by omega
  have hi9 : i * 9 ≤ 9000 := by omega
  have hneg : decide ((i : Int) < 0) = false := decide_eq_false (by omega)
  have HEn : Hid (endR (dueR t rows) k = if r.en then some r.at' else none) := by
   show endR _ _ = _
   unfold endR
   rw [hrs, find_row hd1.nod hr hk]
   simp [hth]
  cases hen : r.en with
  | true =>
   rw [hen] at m7 HEn
   have hhd : w1.drew.cell? ⟨m, 0, none⟩ = some (.slice (some ⟨g, 0, none⟩) n c) := hha
   have n6 : w1.drew.cell? ⟨g, i * 9 + 6, none⟩ = some (.int .i64 r.at') := m6
   have n7 : w1.drew.cell? ⟨g, i * 9 + 7, none⟩ = some (.bool true) := m7
   have hfd : ∀ o, w1.drew.frozen? ⟨g, o, none⟩ = false := hfa
   have HS : Hid (∀ wx wy wz, wx = w1.setCell ⟨g, i * 9 + 6, none⟩ (.int .i64 0) → wy = wx.setCell ⟨g, i * 9 + 7, none⟩ (.bool false) → wz = wy.drew.setCell ⟨g, i * 9 + 8, none⟩ (.int .u64 (r.ver + 1)) → Md wz B m (perR (dueR t rows) k) ∧ Mb mtag B w1 wz ∧ Fx wy.drew m g n c i { r with at' := 0, en := false }) := fun wx wy wz hx hy hz => by
    obtain ⟨k1, k2, k3⟩ := HD.out.cell1 (r' := { r with at' := 0 }) hr (by rw [hn]; exact hha) rfl (HD.out.lst r (List.mem_of_getElem? hr)) ⟨hv1, by show r.ver < _; omega⟩ (by decide) rfl hx
    obtain ⟨l1, l2, l3⟩ := k1.cell1 (r' := { r with at' := 0, en := false }) (set_get hr) (by rw [List.length_set]; exact k3) rfl (k1.lst { r with at' := 0 } (List.mem_of_getElem? (set_get hr))) ⟨hv1, by show r.ver < _; omega⟩ (by decide) rfl hy
    rw [List.set_set] at l1
    have l4 := l1.keep (Aa wy 1)
    have hfx := l4.fx2 (set_get hr) (g := g) (c := c) (by rw [List.length_set] at l3 ⊢; exact l3)
    rw [List.length_set, hn] at hfx
    obtain ⟨p1, p2, -⟩ := l4.cell1 (r' := perK r) (set_get hr) (by rw [List.length_set] at l3 ⊢; exact l3) rfl (l4.lst { r with at' := 0, en := false } (List.mem_of_getElem? (set_get hr))) ⟨by show 0 ≤ r.ver + 1; omega, by show r.ver + 1 < _; omega⟩ (by decide) rfl hz
    rw [List.set_set, Cs HD.out.nod hr hk perK] at p1
    refine ⟨?_, ((k2.trans l2).trans (Mb.of_below (Aa wy 1) l1.lt)).trans p2, hfx⟩
    unfold perR
    rw [HEn.out, HRS.out]
    exact p1
   clear hd1 hm1 hrs hr hk hth HA hvr hen
   go_upto_region 4 with fail
   go_region
   obtain ⟨wx, hwx⟩ : ∃ wx, w1.setCell ⟨g, i * 9 + 6, none⟩ (.int .i64 0) = wx := ⟨_, rfl⟩
   rw [hwx]
   obtain ⟨wy, hwy⟩ : ∃ wy, wx.setCell ⟨g, i * 9 + 7, none⟩ (.bool false) = wy := ⟨_, rfl⟩
   rw [hwy]
   obtain ⟨z1, z2, zf⟩ := HS.out wx wy _ hwx.symm hwy.symm rfl
   have HE : Hid (MTo w (wy.drew.setCell ⟨g, i * 9 + 8, none⟩ (.int .u64 (r.ver + 1))) B m (perR (dueR t rows) k)) := ⟨HM.out.trans z2, z1⟩
   have f1 := zf.hd
   have f8 : wy.drew.cell? ⟨g, i * 9 + 8, none⟩ = some (.int .u64 r.ver) := zf.r9.c8
   have ff := zf.fz
   clear z1 z2 zf m0 m1 m2 m3 m4 m5 m6 m7 m8 hfa hha hhd n6 n7 hfd HS hwx hwy
   generalize wy.drew = wv at HE f1 f8 ff ⊢
   go_wp2
   go_ret
   exact ⟨by rw [HEn.out]; rfl, HE.out⟩
  | false =>
   rw [hen] at m7 HEn
   have HE : Hid (MTo w w1 B m (perR (dueR t rows) k)) := by
    show MTo w w1 B m _
    unfold perR
    rw [HEn.out, HRS.out]
    exact ⟨HM.out, HD.out⟩
   clear hd1 hm1 hrs hr hk hth HA hvr hen
   go_wp2
   go_ret
   exact ⟨by rw [HEn.out]; rfl, HE.out⟩
 ·have HEn : Hid (endR (dueR t rows) k = none) := endR_no hno
  have HE : Hid (MTo w w1 B m (perR (dueR t rows) k)) := by
   show MTo w w1 B m _
   unfold perR
   rw [HEn.out, if_neg (by decide)]
   exact ⟨hm1, hd1⟩
  clear hm1 hd1 hno HA
  go_wp2
  go_ret
  exact ⟨by rw [HEn.out]; rfl, HE.out⟩
def expK (u : Int) (q : Kr) : Kr := { q with at' := u, en := true, ver := q.ver + 1 }
def expR (rows : List Kr) (k : BA) (u t : Int) : List Kr := if Bc rows k = true then dueR t (updR rows k (expK u)) else rows
theorem ExpireM_any (w : World) (B m : Nat) (rows : List Kr) (k : BA) (u t : Int) (H : Md w B m rows) (hv : ∀ r ∈ rows, 0 ≤ r.ver ∧ r.ver < 4611686018427387800) :
  Calls Tryz.prog 55 #[ptr m, .string k, .int .i64 u, .int .i64 t] w fun e w' => e = .returned (.bool (Bc (dueR t rows) k)) ∧ MTo w w' B m (expR (dueR t rows) k u t) := by
 have hlow : LowM rows := fun r hr => ⟨(hv r hr).1, by have := (hv r hr).2; omega⟩
 have HA := At_any w B m rows k t H hlow
 have HV : ∀ r ∈ dueR t rows, 0 ≤ r.ver ∧ r.ver < 4611686018427387801 := fun r hr => by
  obtain ⟨q, hq, rfl⟩ := List.mem_map.1 hr
  have := hv q hq
  unfold dueK
  split
  ·exact ⟨by show 0 ≤ q.ver + 1; omega, by show q.ver + 1 < _; omega⟩
  ·exact ⟨this.1, by omega⟩
 clear H
 go_enter Tryz.func55, Tryz.ntmps55
 go_wp2_with fail
 refine HA.mono ?_
 rintro e w1 ⟨⟨hm1, hd1⟩, ⟨i, r, rfl, hr, hk, hth⟩ | ⟨rfl, hno⟩⟩
 ·obtain ⟨rs, hrs⟩ : ∃ rs, dueR t rows = rs := ⟨_, rfl⟩
  rw [hrs] at hd1 hr HV
  have HD : Hid (Md w1 B m rs) := hd1
  have HM : Hid (Mb mtag B w w1) := hm1
  have HRS : Hid (dueR t rows = rs) := hrs
  have HVR : Hid (∀ r ∈ rs, 0 ≤ r.ver ∧ r.ver < 4611686018427387801) := HV
  have hfew := hd1.few
  have hlt := B1 hr
  obtain ⟨g, c, hha, ⟨m0, m1, m2, m3, m4, m5, m6, m7, m8⟩, hfa⟩ := hd1.fx hr
  have hvr := HV r (List.mem_of_getElem? hr)
  have hv1 := hvr.1
  have hv2 := hvr.2
  obtain ⟨n, hn⟩ : ∃ n, rs.length = n := ⟨_, rfl⟩
  rw [hn] at hha hlt hfew
  have hiz : (i : Int) < n := by omega
  have hi9 : i * 9 ≤ 9000 := by omega
  have hneg : decide ((i : Int) < 0) = false := decide_eq_false (by omega)
  have HT : Hid (Bc (dueR t rows) k = true) := by show _ = _; rw [hrs]; exact thereR_yes hr hk hth
  have hhd : w1.drew.cell? ⟨m, 0, none⟩ = some (.slice (some ⟨g, 0, none⟩) n c) := hha
  have n6 : w1.drew.cell? ⟨g, i * 9 + 6, none⟩ = some (.int .i64 r.at') := m6
  have n7 : w1.drew.cell? ⟨g, i * 9 + 7, none⟩ = some (.bool r.en) := m7
  have hfd : ∀ o, w1.drew.frozen? ⟨g, o, none⟩ = false := hfa
  have HS : Hid (∀ wx wy wz, wx = w1.setCell ⟨g, i * 9 + 6, none⟩ (.int .i64 u) → wy = wx.setCell ⟨g, i * 9 + 7, none⟩ (.bool true) → wz = wy.drew.setCell ⟨g, i * 9 + 8, none⟩ (.int .u64 (r.ver + 1)) → Md wz B m (updR rs k (expK u)) ∧ Mb mtag B w1 wz ∧ Fx wy.drew m g n c i { r with at' := u, en := true }) := fun wx wy wz hx hy hz => by
   obtain ⟨k1, k2, k3⟩ := HD.out.cell1 (r' := { r with at' := u }) hr (by rw [hn]; exact hha) rfl (HD.out.lst r (List.mem_of_getElem? hr)) ⟨hv1, by show r.ver < _; omega⟩ (by decide) rfl hx
   obtain ⟨l1, l2, l3⟩ := k1.cell1 (r' := { r with at' := u, en := true }) (set_get hr) (by rw [List.length_set]; exact k3) rfl (k1.lst { r with at' := u } (List.mem_of_getElem? (set_get hr))) ⟨hv1, by show r.ver < _; omega⟩ (by decide) rfl hy
   rw [List.set_set] at l1
   have l4 := l1.keep (Aa wy 1)
   have hfx := l4.fx2 (set_get hr) (g := g) (c := c) (by rw [List.length_set] at l3 ⊢; exact l3)
   rw [List.length_set, hn] at hfx
   obtain ⟨p1, p2, -⟩ := l4.cell1 (r' := expK u r) (set_get hr) (by rw [List.length_set] at l3 ⊢; exact l3) rfl (l4.lst { r with at' := u, en := true } (List.mem_of_getElem? (set_get hr))) ⟨by show 0 ≤ r.ver + 1; omega, by show r.ver + 1 < _; omega⟩ (by decide) rfl hz
   rw [List.set_set, Cs HD.out.nod hr hk (expK u)] at p1
   exact ⟨p1, ((k2.trans l2).trans (Mb.of_below (Aa wy 1) l1.lt)).trans p2, hfx⟩
  clear hd1 hm1 hrs hr hk hth HA hvr HV
  go_upto_region 4 with fail
  go_region
  obtain ⟨wx, hwx⟩ : ∃ wx, w1.setCell ⟨g, i * 9 + 6, none⟩ (.int .i64 u) = wx := ⟨_, rfl⟩
  rw [hwx]
  obtain ⟨wy, hwy⟩ : ∃ wy, wx.setCell ⟨g, i * 9 + 7, none⟩ (.bool true) = wy := ⟨_, rfl⟩
  rw [hwy]
  obtain ⟨z1, z2, zf⟩ := HS.out wx wy _ hwx.symm hwy.symm rfl
  obtain ⟨wq, hwq⟩ : ∃ wq, wy.drew.setCell ⟨g, i * 9 + 8, none⟩ (.int .u64 (r.ver + 1)) = wq := ⟨_, rfl⟩
  rw [hwq] at z1 z2
  have HMq : Hid (Mb mtag B w wq) := HM.out.trans z2
  have HDu := due_any wq B m _ t z1 (fun q hq => by
   obtain ⟨q0, hq0, rfl⟩ := List.mem_map.1 hq
   have h0 := HVR.out q0 hq0
   by_cases e : q0.nm = k
   ·rw [if_pos e]
    exact ⟨by show 0 ≤ q0.ver + 1; omega, by show q0.ver + 1 < _; omega⟩
   ·rw [if_neg e]
    exact ⟨h0.1, by omega⟩)
  have f1 := zf.hd
  have f8 : wy.drew.cell? ⟨g, i * 9 + 8, none⟩ = some (.int .u64 r.ver) := zf.r9.c8
  have ff := zf.fz
  clear z1 z2 zf m0 m1 m2 m3 m4 m5 m6 m7 m8 hfa hha hhd n6 n7 hfd HS hwx hwy
  generalize wy.drew = wv at f1 f8 ff hwq ⊢
  go_wp2_with fail
  refine HDu.mono ?_
  rintro e w5 ⟨rfl, h5⟩
  have HE : Hid (MTo w w5 B m (expR (dueR t rows) k u t)) := by
   show MTo w w5 B m _
   unfold expR
   rw [HT.out, if_pos rfl, HRS.out]
   exact ⟨HMq.out.trans h5.mb, h5.md⟩
  clear h5 HDu f1 f8 ff hwq
  go_wp2
  go_ret
  exact ⟨by rw [HT.out]; rfl, HE.out⟩
 ·have HT : Hid (Bc (dueR t rows) k = false) := Ct hno
  have HE : Hid (MTo w w1 B m (expR (dueR t rows) k u t)) := by
   show MTo w w1 B m _
   unfold expR
   rw [HT.out, if_neg (by decide)]
   exact ⟨hm1, hd1⟩
  clear hm1 hd1 hno HA HV
  go_wp2
  go_ret
  exact ⟨by rw [HT.out]; rfl, HE.out⟩
abbrev vagg (kd : Int) (tx : BA) (pa : Option Addr) (pc : Nat) (la : Option Addr) (ln lc : Nat) : Value := .agg #[.int .i64 kd, .string tx, .slice pa 0 pc, .slice la ln lc]
theorem LenVM_any (w : World) (tx : BA) (pa : Option Addr) (pc : Nat) (la : Option Addr) (ln lc : Nat) : Calls Tryz.prog 149 #[vagg 4 tx pa pc la ln lc] w fun e w' => e = .returned (.int .i64 (ln : Nat)) ∧ Below w.heap.size w w' := by
 obtain ⟨wa, HWA⟩ : ∃ wa, Hid (w.alloc (.cells #[.int .i64 4, .string tx, .slice pa 0 pc, .slice la ln lc] 107) = wa) := ⟨_, rfl⟩
 have HB : Hid (Below w.heap.size w wa) := by rw [← HWA.out]; exact Ac w _
 go_enter Tryz.func149, Tryz.ntmps149
 go_wp2
 rw [HWA.out]
 go_ret
 exact ⟨rfl, HB.out⟩
theorem EmptyM_txt (w : World) (tx : BA) (pa : Option Addr) (pc : Nat) (la : Option Addr) (ln lc : Nat) : Calls Tryz.prog 100 #[vagg 1 tx pa pc la ln lc] w fun e w' => e = .returned (.bool false) ∧ Below w.heap.size w w' := by
 obtain ⟨wa, HWA⟩ : ∃ wa, Hid (w.alloc (.cells #[.int .i64 1, .string tx, .slice pa 0 pc, .slice la ln lc] 107) = wa) := ⟨_, rfl⟩
 have HB : Hid (Below w.heap.size w wa) := by rw [← HWA.out]; exact Ac w _
 go_enter Tryz.func100, Tryz.ntmps100
 go_wp2
 rw [HWA.out]
 go_ret
 exact ⟨rfl, HB.out⟩
theorem EmptyM_lst (w : World) (tx : BA) (pa : Option Addr) (pc : Nat) (la : Option Addr) (ln lc : Nat) (hl : ln ≤ 1000) : Calls Tryz.prog 100 #[vagg 4 tx pa pc la ln lc] w fun e w' => e = .returned (.bool (decide (ln = 0))) ∧ Below w.heap.size w w' := by
 obtain ⟨wa, HWA⟩ : ∃ wa, Hid (w.alloc (.cells #[.int .i64 4, .string tx, .slice pa 0 pc, .slice la ln lc] 107) = wa) := ⟨_, rfl⟩
 have HB : Hid (Below w.heap.size w wa) := by rw [← HWA.out]; exact Ac w _
 have HL := LenVM_any wa tx pa pc la ln lc
 by_cases h0 : ln = 0
 ·subst h0
  go_enter Tryz.func100, Tryz.ntmps100
  go_wp2_with fail
  rw [HWA.out]
  refine HL.mono ?_
  rintro e w2 ⟨rfl, hb⟩
  have HB2 := Ad HB hb
  clear hb
  go_wp2
  go_ret
  exact ⟨rfl, HB2.out⟩
 ·have hb0 : ((ln : Int) == 0) = false := by simp; omega
  rw [decide_eq_false h0]
  go_enter Tryz.func100, Tryz.ntmps100
  go_wp2_with fail
  rw [HWA.out]
  refine HL.mono ?_
  rintro e w2 ⟨rfl, hb⟩
  have HB2 := Ad HB hb
  clear hb
  go_wp2
  go_ret
  exact ⟨rfl, HB2.out⟩
def Kr.ok (r : Kr) : Prop := r.th = true → r.kd = 1 ∨ r.kd = 4 ∧ r.ln ≤ 1000
def emR (r : Kr) : Bool := if r.kd = 1 then false else decide (r.ln = 0)
def touK (q : Kr) : Kr := if emR q = true then Kr.off q.nm (q.ver + 1) else { q with ver := q.ver + 1 }
def touR (rows : List Kr) (k : BA) : List Kr := if Bc rows k = true then updR rows k touK else rows
theorem TouchM_any (w : World) (B m : Nat) (rows : List Kr) (k : BA) (t : Int) (H : Md w B m rows) (hv : LowM rows) (hok : ∀ r ∈ dueR t rows, r.ok) :
  Calls Tryz.prog 60 #[ptr m, .string k, .int .i64 t] w fun e w' => e = .returned (.tuple #[]) ∧ MTo w w' B m (touR (dueR t rows) k) := by
 have HA := At_any w B m rows k t H hv
 have HV := hv.due t
 clear H
 go_enter Tryz.func60, Tryz.ntmps60
 go_wp2_with fail
 refine HA.mono ?_
 rintro e w1 ⟨⟨hm1, hd1⟩, ⟨i, r, rfl, hr, hk, hth⟩ | ⟨rfl, hno⟩⟩
 ·obtain ⟨rs, hrs⟩ : ∃ rs, dueR t rows = rs := ⟨_, rfl⟩
  rw [hrs] at hd1 hr HV hok
  have hrk := hok r (List.mem_of_getElem? hr) hth
  have HD : Hid (Md w1 B m rs) := hd1
  have HM : Hid (Mb mtag B w w1) := hm1
  have HRS : Hid (dueR t rows = rs) := hrs
  have hfew := hd1.few
  have hlt := B1 hr
  obtain ⟨g, c, hF⟩ := hd1.fx hr
  have hvr := HV r (List.mem_of_getElem? hr)
  have hv1 := hvr.1
  have hv2 := hvr.2
  obtain ⟨n, hn⟩ : ∃ n, rs.length = n := ⟨_, rfl⟩
  rw [hn] at hF hlt hfew
  have hha := hF.hd
  have m8 := hF.r9.c8
  have hfa := hF.fz
  have hiz : (i : Int) < n := by omega
  have hi9 : i * 9 ≤ 9000 := by omega
  have hneg : decide ((i : Int) < 0) = false := decide_eq_false (by omega)
  have HT : Hid (Bc (dueR t rows) k = true) := by show _ = _; rw [hrs]; exact thereR_yes hr hk hth
  obtain ⟨wx, hwx⟩ : ∃ wx, w1.setCell ⟨g, i * 9 + 8, none⟩ (.int .u64 (r.ver + 1)) = wx := ⟨_, rfl⟩
  obtain ⟨k1, k2, k3⟩ := hd1.cell1 (r' := { r with ver := r.ver + 1 }) hr (by rw [hn]; exact hha) rfl (hd1.lst r (List.mem_of_getElem? hr)) ⟨by show 0 ≤ r.ver + 1; omega, by show r.ver + 1 < _; omega⟩ (by decide) rfl hwx.symm
  have hF2 := k1.fx2 (set_get hr) (g := g) (c := c) (by rw [List.length_set]; exact k3)
  rw [List.length_set, hn] at hF2
  have HF2 : Hid (Fx wx m g n c i { r with ver := r.ver + 1 }) := hF2
  have HD2 : Hid (Md wx B m (rs.set i { r with ver := r.ver + 1 })) := k1
  have HM2 : Hid (Mb mtag B w wx) := HM.out.trans k2
  obtain ⟨f0, ⟨p0, p1, p2, p3, p4, p5, p6, p7, p8⟩, fz⟩ := hF2
  simp only at p0 p1 p2 p3 p4 p5 p6 p7 p8
  have HEnd : Hid (emR r = false → MTo w wx B m (touR (dueR t rows) k)) := fun he => by
   unfold touR
   rw [HT.out, if_pos rfl, HRS.out, ← Cs HD.out.nod hr hk touK]
   have e : touK r = { r with ver := r.ver + 1 } := if_neg (by rw [he]; decide)
   rw [e]
   exact ⟨HM2.out, HD2.out⟩
  have HEnd2 : Hid (emR r = true → ∀ wb wz, Below wx.heap.size wx wb → wz = wb.setCells g (i * 9) (Kr.off k (r.ver + 1)).cells → MTo w wz B m (touR (dueR t rows) k)) := fun he wb wz hb hz => by
   have hdb := HD2.out.keep hb
   have hfb := HF2.out.keep hb
   have h := hdb.set (i := i) (by rw [List.length_set, hn]; omega) (by rw [List.length_set, hn]; exact hfb.hd) (r := Kr.off k (r.ver + 1)) (by rw [nm_get (set_get hr)]; exact hk.symm) (RdL.nil _) ⟨by show 0 ≤ r.ver + 1; omega, by show r.ver + 1 < _; omega⟩ hz
   rw [List.set_set] at h
   unfold touR
   rw [HT.out, if_pos rfl, HRS.out, ← Cs HD.out.nod hr hk touK]
   have e : touK r = Kr.off k (r.ver + 1) := by
    unfold touK
    rw [if_pos he, hk]
   rw [e]
   exact ⟨(HM2.out.trans (Mb.of_below hb HD2.out.lt)).trans h.2, h.1⟩
  clear hd1 hm1 hrs hr hk hth HA hvr HV hok k1 k2 k3 hF
  rcases hrk with hkd | ⟨hkd, hln⟩
  ·rw [hkd] at p2
   have HEm := EmptyM_txt wx r.tx r.pa r.pc r.la r.ln r.lc
   have HE0 : Hid (emR r = false) := by show emR r = false; unfold emR; rw [if_pos hkd]
   go_wp2_with fail
   refine HEm.mono ?_
   rintro e w3 ⟨rfl, hb3⟩
   have h3 := HEnd.out HE0.out
   have HE : Hid (MTo w w3 B m (touR (dueR t rows) k)) := ⟨h3.mb.trans (Mb.of_below hb3 h3.md.lt), h3.md.keep hb3⟩
   clear h3 hb3 HEm
   go_wp2
   go_end0
   exact ⟨rfl, HE.out⟩
  ·rw [hkd] at p2
   have HEm := EmptyM_lst wx r.tx r.pa r.pc r.la r.ln r.lc hln
   by_cases h0 : r.ln = 0
   ·have HE1 : Hid (emR r = true) := by show emR r = true; unfold emR; rw [if_neg (by rw [hkd]; decide)]; exact decide_eq_true h0
    rw [decide_eq_true h0, h0] at HEm
    rw [h0] at p5
    have HL0 : Hid (r.ln = 0) := h0
    clear h0
    go_wp2_with fail
    refine HEm.mono ?_
    rintro e w3 ⟨rfl, hb3⟩
    have HB3 : Hid (Below wx.heap.size wx w3) := hb3
    obtain ⟨q0, ⟨s0, s1, s2, s3, s4, s5, s6, s7, s8⟩, sz⟩ := HF2.out.keep hb3
    simp only at s0 s1 s2 s3 s4 s5 s6 s7 s8
    have qd : w3.drew.cell? ⟨m, 0, none⟩ = some (.slice (some ⟨g, 0, none⟩) n c) := q0
    have t8 : w3.drew.cell? ⟨g, i * 9 + 8, none⟩ = some (.int .u64 (r.ver + 1)) := s8
    have tz : ∀ o, w3.drew.frozen? ⟨g, o, none⟩ = false := sz
    clear hb3 HEm p0 p1 p2 p3 p4 p5 p6 p7 p8 f0 fz
    go_upto_region 4 with fail
    go_region
    obtain ⟨wz, hwz⟩ : ∃ wz, w3.setCells g (i * 9) (Kr.off k (r.ver + 1)).cells = wz := ⟨_, rfl⟩
    have h5 := HEnd2.out HE1.out w3 wz HB3.out hwz.symm
    have HE : Hid (MTo w wz.drew B m (touR (dueR t rows) k)) := ⟨h5.mb.trans (Mb.of_below (Aa wz 1) h5.md.lt), h5.md.keep (Aa wz 1)⟩
    subst hwz
    clear h5
    go_wp2
    go_end0
    exact ⟨rfl, HE.out⟩
   ·have HE0 : Hid (emR r = false) := by show emR r = false; unfold emR; rw [if_neg (by rw [hkd]; decide)]; exact decide_eq_false h0
    rw [decide_eq_false h0] at HEm
    go_wp2_with fail
    refine HEm.mono ?_
    rintro e w3 ⟨rfl, hb3⟩
    have h3 := HEnd.out HE0.out
    have HE : Hid (MTo w w3 B m (touR (dueR t rows) k)) := ⟨h3.mb.trans (Mb.of_below hb3 h3.md.lt), h3.md.keep hb3⟩
    clear h3 hb3 HEm
    go_wp2
    go_end0
    exact ⟨rfl, HE.out⟩
 ·have HE : Hid (MTo w w1 B m (touR (dueR t rows) k)) := by
   show MTo w w1 B m _
   unfold touR
   rw [Ct hno, if_neg (by decide)]
   exact ⟨hm1, hd1⟩
  clear hm1 hd1 hno HA HV
  go_wp2
  (try simp only [Exit.inBlock, Exit.then])
  first
   | (refine bodyPost_ret (results_none rfl _ _ _) rfl ?_)
   | (refine bodyPost_end (results_none rfl _ _ _) rfl ?_)
  exact ⟨rfl, HE.out⟩
end Go.Proofs.YtmjeljldmmkcpaaGreat.Sq

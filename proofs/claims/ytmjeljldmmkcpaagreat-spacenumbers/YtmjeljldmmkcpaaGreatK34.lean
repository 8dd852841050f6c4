/- Texts that the others stand on. -/
import Derived.Test.YtmjeljldmmkcpaaGreatK33
set_option maxRecDepth 100000
set_option maxHeartbeats 1600000
namespace Go.Proofs.YtmjeljldmmkcpaaGreat.Sq
open Go.RowKit Go.PlainAid
open Dk (ptr Aa Ac Ad Af OwnR OwnP OwnS Mv Am Elt A4)
section
variable {w w' : World} {B m : Nat} {rows : List Kr}
theorem Md.mv (H : Md w B m rows) {t : TypeId → Bool} (hm : Mv t w w') (h1 : t 104 = false) (h2 : t 115 = false) (h3 : t 9 = false) : Md w' B m rows := by
 obtain ⟨a, c, k1, k2⟩ := H.ex
 exact ⟨⟨a, c, by rw [hm.block m _ _ k1 h1]; exact k1, OwnR.mv k2 hm h2⟩, fun r hr => (H.lst r hr).mv hm h3, H.nod, H.few, H.vle, H.low⟩
theorem Md.keep (H : Md w B m rows) (hb : Below w.heap.size w w') : Md w' B m rows := H.mv (t := fun _ => false) (Mv.of_below hb) rfl rfl rfl
theorem Md.lt (H : Md w B m rows) : B ≤ w.heap.size := by
 obtain ⟨a, c, k1, -⟩ := H.ex
 exact Nat.le_trans H.low (Nat.le_of_lt (Array.getElem?_eq_some_iff.1 k1).1)
structure Fx (w : World) (m g n c i : Nat) (r : Kr) : Prop where
 hd : w.cell? ⟨m, 0, none⟩ = some (.slice (some ⟨g, 0, none⟩) n c)
 r9 : Row9 w g i r
 fz : ∀ o, w.frozen? ⟨g, o, none⟩ = false
theorem Md.fx (H : Md w B m rows) {i : Nat} {r : Kr} (hr : rows[i]? = some r) : ∃ g c, Fx w m g rows.length c i r := by
 obtain ⟨g, c, h1, h2, h3⟩ := H.row hr
 exact ⟨g, c, h1, h2, h3⟩
theorem Md.fx2 (H : Md w B m rows) {i : Nat} {r : Kr} (hr : rows[i]? = some r) {g c : Nat} (hg : w.cell? ⟨m, 0, none⟩ = some (.slice (some ⟨g, 0, none⟩) rows.length c)) : Fx w m g rows.length c i r := by
 obtain ⟨g', c', h⟩ := H.fx hr
 have := h.hd
 rw [hg] at this
 injection this with this
 injection this with e1 _ e3
 injection e1 with e1
 injection e1 with e1
 subst e1
 subst e3
 exact h
theorem Fx.keep {g n c i : Nat} {r : Kr} (h : Fx w m g n c i r) (hb : Below w.heap.size w w') : Fx w' m g n c i r := by
 have hk : ∀ b o v, w.cell? ⟨b, o, none⟩ = some v → w'.cell? ⟨b, o, none⟩ = some v := fun b o v hv => by rw [hb.cell (p := ⟨b, o, none⟩) (World.block_lt_of_cell? _ _ hv)]; exact hv
 have hg : g < w.heap.size := World.block_lt_of_cell? _ _ h.r9.c0
 refine ⟨hk _ _ _ h.hd, ⟨hk _ _ _ h.r9.c0, hk _ _ _ h.r9.c1, hk _ _ _ h.r9.c2, hk _ _ _ h.r9.c3, hk _ _ _ h.r9.c4, hk _ _ _ h.r9.c5, hk _ _ _ h.r9.c6, hk _ _ _ h.r9.c7, hk _ _ _ h.r9.c8⟩, fun o => ?_⟩
 have := h.fz o
 unfold World.frozen? at this ⊢
 rw [hb.block g hg]
 exact this
theorem nm_get {i : Nat} {r : Kr} (hr : rows[i]? = some r) : (rows.map (·.nm)).getD i ⟨#[]⟩ = r.nm := by
 rw [List.getD_eq_getElem?_getD, List.getElem?_map, hr]; rfl
theorem B1 {i : Nat} {r : Kr} (hr : rows[i]? = some r) : i < rows.length := (List.getElem?_eq_some_iff.1 hr).1
end
def dueK (t : Int) (r : Kr) : Kr := if r.th = true ∧ r.en = true ∧ r.at' ≤ t then Kr.off r.nm (r.ver + 1) else r
def dueR (t : Int) (rows : List Kr) : List Kr := rows.map (dueK t)
theorem dueK_nm (t : Int) (r : Kr) : (dueK t r).nm = r.nm := by unfold dueK; split <;> rfl
def dueI (t : Int) (rows : List Kr) (i : Nat) : List Kr := (rows.take i).map (dueK t) ++ rows.drop i
theorem dueI_zero (t : Int) (rows : List Kr) : dueI t rows 0 = rows := by unfold dueI; simp
theorem dueI_end (t : Int) (rows : List Kr) {i : Nat} (h : rows.length ≤ i) : dueI t rows i = dueR t rows := by
 unfold dueI dueR
 rw [List.take_of_length_le h, List.drop_of_length_le h, List.append_nil]
theorem dueI_len (t : Int) (rows : List Kr) (i : Nat) : (dueI t rows i).length = rows.length := by
 unfold dueI
 rw [List.length_append, List.length_map, List.length_take, List.length_drop]
 omega
theorem dueI_get (t : Int) (rows : List Kr) {i : Nat} {r : Kr} (h : rows[i]? = some r) : (dueI t rows i)[i]? = some r := by
 have hi := B1 h
 unfold dueI
 rw [List.getElem?_append_right (by rw [List.length_map, List.length_take]; omega), List.length_map, List.length_take, List.getElem?_drop, Nat.min_eq_left (by omega), Nat.sub_self, Nat.add_zero, h]
theorem dueI_step (t : Int) (rows : List Kr) {i : Nat} {r : Kr} (h : rows[i]? = some r) : (dueI t rows i).set i (dueK t r) = dueI t rows (i + 1) := by
 have hi := B1 h
 unfold dueI
 have h1 : rows.drop i = r :: rows.drop (i + 1) := by
  rw [List.drop_eq_getElem_cons hi]
  congr 1
  exact (List.getElem?_eq_some_iff.1 h).2
 rw [h1, List.set_append_right _ _ (by rw [List.length_map, List.length_take]; omega), List.length_map, List.length_take, Nat.min_eq_left (by omega), Nat.sub_self, List.set_cons_zero, List.take_add_one, h, Option.toList_some, List.map_append, List.append_assoc]
 rfl
theorem set_same {rows : List Kr} {i : Nat} {r : Kr} (h : rows[i]? = some r) : rows.set i r = rows := by
 have hi := B1 h
 have := List.set_getElem_self hi
 rw [(List.getElem?_eq_some_iff.1 h).2] at this
 exact this
structure MTo (w w' : World) (B m : Nat) (rows : List Kr) : Prop where
 mb : Mb mtag B w w'
 md : Md w' B m rows
def LowM (rows : List Kr) : Prop := ∀ r ∈ rows, 0 ≤ r.ver ∧ r.ver < 4611686018427387900
theorem due_any (w : World) (B m : Nat) (rows : List Kr) (t : Int) (H : Md w B m rows) (hv : LowM rows) :
  Calls Tryz.prog 101 #[ptr m, .int .i64 t] w fun e w' => e = .returned (.tuple #[]) ∧ MTo w w' B m (dueR t rows) := by
 have H0 : Hid (Md w B m rows) := H
 have hfew := H.few
 clear H
 obtain ⟨n, hn⟩ : ∃ n, rows.length = n := ⟨_, rfl⟩
 rw [hn] at hfew
 go_enter Tryz.func101, Tryz.ntmps101
 go_wp2
 go_loopg [4] (n + 1) (fun gk iv wr => ∃ i : Nat, iv = .int .i64 i ∧ i + gk = n + 1 ∧ i ≤ n ∧ Hid (Md wr B m (dueI t rows i)) ∧ Hid (Mb mtag B w wr))
 case atStart => exact ⟨0, rfl, by omega, by omega, by rw [dueI_zero]; exact H0, Mb.refl _ _ _⟩
 case round =>
  obtain ⟨i, rfl, hi, hin, HD, HM⟩ := hrel
  have hlen : (dueI t rows i).length = n := by rw [dueI_len, hn]
  by_cases h1 : (i : Int) < n
  ·obtain ⟨r, hr⟩ : ∃ r, rows[i]? = some r := ⟨_, List.getElem?_eq_getElem (by omega)⟩
   have hri := dueI_get t rows hr
   obtain ⟨g, c, hF⟩ := HD.out.fx hri
   rw [hlen] at hF
   have HF : Hid (Fx wr m g n c i r) := hF
   have hh := hF.hd
   obtain ⟨k0, k1, k2, k3, k4, k5, k6, k7, k8⟩ := hF.r9
   have hi9 : i * 9 ≤ 9000 := by omega
   have hvr := hv r (List.mem_of_getElem? hr)
   have hv1 := hvr.1
   have hv2 := hvr.2
   obtain ⟨wa, HWA⟩ : ∃ wa, Hid (wr.alloc (.cells #[.string r.nm, .bool r.th, .int .i64 r.kd, .string r.tx, .slice r.pa 0 r.pc, .slice r.la r.ln r.lc, .int .i64 r.at', .bool r.en, .int .u64 r.ver] 115) = wa) := ⟨_, rfl⟩
   have HBa : Hid (Below wr.heap.size wr wa) := by rw [← HWA.out]; exact Ac wr _
   have hblk : wa.heap[wr.heap.size]? = some (.cells #[.string r.nm, .bool r.th, .int .i64 r.kd, .string r.tx, .slice r.pa 0 r.pc, .slice r.la r.ln r.lc, .int .i64 r.at', .bool r.en, .int .u64 r.ver] 115 (0, 0)) := by rw [← HWA.out]; exact heap_alloc_new wr _
   have HDa : Hid (Md wa B m (dueI t rows i)) := HD.out.keep HBa.out
   have HMa : Hid (Mb mtag B w wa) := HM.out.trans (Mb.of_below HBa.out HD.out.lt)
   by_cases hdue : r.th = true ∧ r.en = true ∧ r.at' ≤ t
   ·obtain ⟨d1, d2, d3⟩ := hdue
    have HK : Hid (dueK t r = Kr.off r.nm (r.ver + 1)) := if_pos ⟨d1, d2, d3⟩
    rw [d1] at k1
    rw [d2] at k7
    rw [d1, d2] at HWA hblk
    have hge : decide (r.at' ≤ t) = true := decide_eq_true d3
    obtain ⟨hha, ⟨m0, m1, m2, m3, m4, m5, m6, m7, m8⟩, hfa⟩ := HF.out.keep HBa.out
    have hhd : wa.drew.cell? ⟨m, 0, none⟩ = some (.slice (some ⟨g, 0, none⟩) n c) := hha
    have n0 : wa.drew.cell? ⟨g, i * 9, none⟩ = some (.string r.nm) := m0
    have hfd : ∀ o, wa.drew.frozen? ⟨g, o, none⟩ = false := hfa
    have l0 : wa.drew.cell? ⟨wr.heap.size, 0, none⟩ = some (.string r.nm) := by show wa.cell? _ = _; simp only [World.cell?, hblk]; rfl
    have l8 : wa.drew.cell? ⟨wr.heap.size, 8, none⟩ = some (.int .u64 r.ver) := by show wa.cell? _ = _; simp only [World.cell?, hblk]; rfl
    have HS : Hid (∀ wz, wz = wa.setCells g (i * 9) (Kr.off r.nm (r.ver + 1)).cells → Md wz B m (dueI t rows (i + 1)) ∧ Mb mtag B wa wz) := fun wz hz => by
     have h := HDa.out.set (i := i) (by rw [hlen]; omega) (by rw [hlen]; exact hha) (r := Kr.off r.nm (r.ver + 1)) (nm_get hri).symm (RdL.nil _) ⟨by show 0 ≤ r.ver + 1; omega, by show r.ver + 1 < _; omega⟩ hz
     rw [← HK.out, dueI_step t rows hr] at h
     exact h
    clear hblk d1 d2 d3 hF
    go_upto_region 5 with fail
    rw [HWA.out]
    go_region
    obtain ⟨wz, hwz⟩ : ∃ wz, wa.setCells g (i * 9) (Kr.off r.nm (r.ver + 1)).cells = wz := ⟨_, rfl⟩
    obtain ⟨hz1, hz2⟩ := HS.out wz hwz.symm
    have HD1 : Hid (Md wz.drew B m (dueI t rows (i + 1))) := hz1.keep (Aa wz 1)
    have HM1 : Hid (Mb mtag B w wz.drew) := (HMa.out.trans hz2).trans (Mb.of_below (Aa wz 1) hz1.lt)
    subst hwz
    clear hz1 hz2
    go_wp2
    go_roundg (gk - 1)
    case measure => omega
    case rel => exact ⟨i + 1, by go_num, by omega, by omega, HD1, HM1⟩
   ·have HD1 : Hid (Md wa B m (dueI t rows (i + 1))) := by
     have h := dueI_step t rows hr
     rw [show dueK t r = r from if_neg hdue, set_same hri] at h
     show Md wa B m (dueI t rows (i + 1))
     rw [← h]
     exact HDa.out
    have hways : r.th = false ∨ r.th = true ∧ r.en = false ∨ r.th = true ∧ r.en = true ∧ ¬ r.at' ≤ t := by
     cases h3 : r.th with
     | false => exact .inl rfl
     | true => cases h4 : r.en with
      | false => exact .inr (.inl ⟨rfl, rfl⟩)
      | true => exact .inr (.inr ⟨rfl, rfl, fun h => hdue ⟨h3, h4, h⟩⟩)
    clear hblk hdue hF
    rcases hways with d1 | ⟨d1, d2⟩ | ⟨d1, d2, d3⟩
    ·rw [d1] at k1 HWA
     clear d1
     go_wp2
     rw [HWA.out]
     go_roundg (gk - 1)
     case measure => omega
     case rel => exact ⟨i + 1, by go_num, by omega, by omega, HD1, HMa⟩
    ·rw [d1] at k1 HWA
     rw [d2] at k7 HWA
     clear d1 d2
     go_wp2
     rw [HWA.out]
     go_roundg (gk - 1)
     case measure => omega
     case rel => exact ⟨i + 1, by go_num, by omega, by omega, HD1, HMa⟩
    ·rw [d1] at k1 HWA
     rw [d2] at k7 HWA
     have hge : decide (r.at' ≤ t) = false := decide_eq_false d3
     clear d1 d2 d3
     go_wp2
     rw [HWA.out]
     go_roundg (gk - 1)
     case measure => omega
     case rel => exact ⟨i + 1, by go_num, by omega, by omega, HD1, HMa⟩
  ·have HE : Hid (MTo w wr B m (dueR t rows)) := ⟨HM.out, by rw [← dueI_end t rows (i := i) (by omega)]; exact HD.out⟩
   obtain ⟨a, c, hh⟩ := HD.out.head
   rw [hlen] at hh
   go_wp2
   go_end0
   exact ⟨rfl, HE.out⟩
theorem str_yes {a b : BA} (h : a = b) : (a.toList == b.toList) = true := by rw [Dk.str_beq]; exact decide_eq_true h
theorem str_no {a b : BA} (h : a ≠ b) : (a.toList == b.toList) = false := by rw [Dk.str_beq]; exact decide_eq_false h
theorem row_ex {rows : List Kr} {i n : Nat} (hn : rows.length = n) (hi : i < n) : ∃ r, rows[i]? = some r := ⟨_, List.getElem?_eq_getElem (by omega)⟩
def AtR (rows : List Kr) (k : BA) (e : Ending) : Prop := (∃ (i : Nat) (r : Kr), e = .returned (.int .i64 i) ∧ rows[i]? = some r ∧ r.nm = k ∧ r.th = true) ∨ e = .returned (.int .i64 (-1)) ∧ ∀ r ∈ rows, r.nm = k → r.th = false
theorem At_any (w : World) (B m : Nat) (rows : List Kr) (k : BA) (t : Int) (H : Md w B m rows) (hv : LowM rows) :
  Calls Tryz.prog 65 #[ptr m, .string k, .int .i64 t] w fun e w' => MTo w w' B m (dueR t rows) ∧ AtR (dueR t rows) k e := by
 have HDu := due_any w B m rows t H hv
 clear H
 go_enter Tryz.func65, Tryz.ntmps65
 go_wp2_with fail
 refine HDu.mono ?_
 rintro e w1 ⟨rfl, hm1, hd1⟩
 obtain ⟨rs, hrs⟩ : ∃ rs, dueR t rows = rs := ⟨_, rfl⟩
 rw [hrs] at hd1
 have HD : Hid (Md w1 B m rs) := hd1
 have HM : Hid (Mb mtag B w w1) := hm1
 have HRS : Hid (dueR t rows = rs) := hrs
 have hfew := hd1.few
 clear hm1 hd1 hrs HDu
 obtain ⟨n, hn⟩ : ∃ n, rs.length = n := ⟨_, rfl⟩
 rw [hn] at hfew
 have HN : Hid (rs.length = n) := hn
 go_wp2
 go_loopg [7] (n + 1) (fun gk iv wr => w1 = wr ∧ ∃ i : Nat, iv = .int .i64 i ∧ i + gk = n + 1 ∧ i ≤ n ∧ Hid (∀ r ∈ rs.take i, r.nm = k → r.th = false))
 case atStart => exact ⟨rfl, 0, rfl, by omega, by omega, fun r hr => absurd hr (by simp)⟩
 case round =>
  obtain ⟨rfl, i, rfl, hi, hin, HNo⟩ := hrel
  by_cases h1 : (i : Int) < n
  ·obtain ⟨r, hr⟩ := row_ex hn (show i < n by omega)
   obtain ⟨g, c, hh, hR, -⟩ := HD.out.fx hr
   rw [hn] at hh
   have k0 := hR.c0
   have k1 := hR.c1
   have hi9 : i * 9 ≤ 9000 := by omega
   have HHr : Hid (rs[i]? = some r) := hr
   have HTk : Hid (rs.take (i + 1) = rs.take i ++ [r]) := by show _ = _; rw [List.take_add_one, hr]; rfl
   clear hR hr
   by_cases hk : r.nm = k
   ·have hq := str_yes hk
    cases hth : r.th with
    | true =>
     rw [hth] at k1
     have HE : Hid (MTo w w1 B m (dueR t rows) ∧ AtR (dueR t rows) k (.returned (.int .i64 i))) := by
      show MTo w w1 B m (dueR t rows) ∧ _
      rw [HRS.out]
      exact ⟨⟨HM.out, HD.out⟩, .inl ⟨i, r, rfl, HHr.out, hk, hth⟩⟩
     clear hk hth
     go_wp2
     go_ret
     exact HE.out
    | false =>
     rw [hth] at k1
     have HN2 : Hid (∀ r ∈ rs.take (i + 1), r.nm = k → r.th = false) := fun q hq hqk => by
      rw [HTk.out] at hq
      rcases List.mem_append.1 hq with h | h
      ·exact HNo.out q h hqk
      ·rw [List.mem_singleton] at h
       rw [h]; exact hth
     clear hk hth
     go_wp2
     go_roundg (gk - 1)
     case measure => omega
     case rel => exact ⟨rfl, i + 1, by go_num, by omega, by omega, HN2⟩
   ·have hq := str_no hk
    have HN2 : Hid (∀ r ∈ rs.take (i + 1), r.nm = k → r.th = false) := fun q hq hqk => by
     rw [HTk.out] at hq
     rcases List.mem_append.1 hq with h | h
     ·exact HNo.out q h hqk
     ·rw [List.mem_singleton] at h
      rw [h] at hqk
      exact absurd hqk hk
    clear hk
    go_wp2
    go_roundg (gk - 1)
    case measure => omega
    case rel => exact ⟨rfl, i + 1, by go_num, by omega, by omega, HN2⟩
  ·have HE : Hid (MTo w w1 B m (dueR t rows) ∧ AtR (dueR t rows) k (.returned (.int .i64 (-1)))) := by
    show MTo w w1 B m (dueR t rows) ∧ _
    rw [HRS.out]
    refine ⟨⟨HM.out, HD.out⟩, .inr ⟨rfl, fun r hr => ?_⟩⟩
    have := HNo.out r (by rw [List.take_of_length_le (by omega)]; exact hr)
    exact this
   obtain ⟨a, c, hh⟩ := HD.out.head
   rw [hn] at hh
   go_wp2
   go_ret
   exact HE.out
def verR (rows : List Kr) (k : BA) : Int := ((rows.find? fun r => decide (r.nm = k)).map (·.ver)).getD 0
theorem Ver_any (w : World) (B m : Nat) (rows : List Kr) (k : BA) (t : Int) (H : Md w B m rows) (hv : LowM rows) :
  Calls Tryz.prog 71 #[ptr m, .string k, .int .i64 t] w fun e w' => MTo w w' B m (dueR t rows) ∧ e = .returned (.int .u64 (verR (dueR t rows) k)) := by
 have HDu := due_any w B m rows t H hv
 clear H
 go_enter Tryz.func71, Tryz.ntmps71
 go_wp2_with fail
 refine HDu.mono ?_
 rintro e w1 ⟨rfl, hm1, hd1⟩
 obtain ⟨rs, hrs⟩ : ∃ rs, dueR t rows = rs := ⟨_, rfl⟩
 rw [hrs] at hd1
 have HD : Hid (Md w1 B m rs) := hd1
 have HM : Hid (Mb mtag B w w1) := hm1
 have HRS : Hid (dueR t rows = rs) := hrs
 have hfew := hd1.few
 clear hm1 hd1 hrs HDu
 obtain ⟨n, hn⟩ : ∃ n, rs.length = n := ⟨_, rfl⟩
 rw [hn] at hfew
 go_wp2
 go_loopg [7] (n + 1) (fun gk iv wr => w1 = wr ∧ ∃ i : Nat, iv = .int .i64 i ∧ i + gk = n + 1 ∧ i ≤ n ∧ Hid (∀ r ∈ rs.take i, r.nm ≠ k))
 case atStart => exact ⟨rfl, 0, rfl, by omega, by omega, fun r hr => absurd hr (by simp)⟩
 case round =>
  obtain ⟨rfl, i, rfl, hi, hin, HNo⟩ := hrel
  by_cases h1 : (i : Int) < n
  ·obtain ⟨r, hr⟩ := row_ex hn (show i < n by omega)
   obtain ⟨g, c, hh, hR, -⟩ := HD.out.fx hr
   rw [hn] at hh
   have k0 := hR.c0
   have k8 := hR.c8
   have hi9 : i * 9 ≤ 9000 := by omega
   have HHr : Hid (rs[i]? = some r) := hr
   have HTk : Hid (rs.take (i + 1) = rs.take i ++ [r]) := by show _ = _; rw [List.take_add_one, hr]; rfl
   clear hR hr
   by_cases hk : r.nm = k
   ·have hq := str_yes hk
    have HE : Hid (MTo w w1 B m (dueR t rows) ∧ verR (dueR t rows) k = r.ver) := by
     show MTo w w1 B m (dueR t rows) ∧ _
     rw [HRS.out]
     refine ⟨⟨HM.out, HD.out⟩, ?_⟩
     unfold verR
     have h2 : rs = rs.take i ++ r :: rs.drop (i + 1) := by
      have h := (List.take_append_drop (i + 1) rs).symm
      rw [HTk.out, List.append_assoc] at h
      exact h
     have h3 : (rs.take i).find? (fun r => decide (r.nm = k)) = none := List.find?_eq_none.2 (fun q hq hd => HNo.out q hq (of_decide_eq_true hd))
     have h4 : (r :: rs.drop (i + 1)).find? (fun r => decide (r.nm = k)) = some r := by simp [hk]
     rw [h2, List.find?_append, h3, h4]
     rfl
    clear hk
    go_wp2
    go_ret
    exact ⟨HE.out.1, by rw [HE.out.2]; rfl⟩
   ·have hq := str_no hk
    have HN2 : Hid (∀ r ∈ rs.take (i + 1), r.nm ≠ k) := fun q hq => by
     rw [HTk.out] at hq
     rcases List.mem_append.1 hq with h | h
     ·exact HNo.out q h
     ·rw [List.mem_singleton] at h
      rw [h]; exact hk
    clear hk
    go_wp2
    go_roundg (gk - 1)
    case measure => omega
    case rel => exact ⟨rfl, i + 1, by go_num, by omega, by omega, HN2⟩
  ·have HE : Hid (MTo w w1 B m (dueR t rows) ∧ verR (dueR t rows) k = 0) := by
    show MTo w w1 B m (dueR t rows) ∧ _
    rw [HRS.out]
    refine ⟨⟨HM.out, HD.out⟩, ?_⟩
    unfold verR
    rw [List.find?_eq_none.2 (fun q hq hd => HNo.out q (by rw [List.take_of_length_le (by omega)]; exact hq) (of_decide_eq_true hd))]
    rfl
   obtain ⟨a, c, hh⟩ := HD.out.head
   rw [hn] at hh
   go_wp2
   go_ret
   exact ⟨HE.out.1, by rw [HE.out.2]; rfl⟩
theorem new_cells (w : World) (cs : List Value) (t : TypeId) (j : Nat) (u : Value) (hu : cs[j]? = some u) : (w.alloc (.cells cs.toArray t)).cell? ((⟨w.heap.size, 0, none⟩ : Addr).add j) = some u := by
 have hb : (w.alloc (.cells cs.toArray t)).heap[w.heap.size]? = some (.cells cs.toArray t (0, 0)) := heap_alloc_new w _
 rw [Af, Nat.zero_add]
 simp only [World.cell?, hb]
 simpa using hu
theorem Kr.one (r : Kr) : ∀ u ∈ r.cells, u.oneCell' = true := by
 intro u hu
 unfold Kr.cells at hu
 simp only [List.mem_cons, List.not_mem_nil, or_false] at hu
 rcases hu with rfl | rfl | rfl | rfl | rfl | rfl | rfl | rfl | rfl <;> rfl
theorem off_low (k : BA) : 0 ≤ (Kr.off k 0).ver ∧ (Kr.off k 0).ver < 4611686018427387904 := ⟨Int.le_refl _, by show (0 : Int) < _; decide⟩
theorem kcells_append (a b : List Kr) : Bm (a ++ b) = Bm a ++ Bm b := List.flatMap_append ..
theorem Md.more {w w1 w2 w3 : World} {B m : Nat} {rows : List Kr} (H : Md w B m rows) {a a3 : Option Addr} {c n3 c3 : Nat} (h1 : w.heap[m]? = some (.cells #[.slice a rows.length c] 104 (0, 0))) (h2 : OwnR w B 115 9 a rows.length c (Bm rows)) (hb : Below w.heap.size w w1) (hg : w1.grownBy w2 (a.map (·.block))) {r : Kr} (hO : OwnR w2 B 115 9 a3 n3 c3 (Bm rows ++ r.cells)) (hn : n3 = rows.length + 1) (hl : RdL w r.la r.ln r.lc r.ls) (hk : r.nm ∉ rows.map (·.nm)) (hf : rows.length + 1 ≤ 1000) (hv : 0 ≤ r.ver ∧ r.ver < 4611686018427387904) :
  (∃ cs, w2.heap[m]? = some (.cells cs 104 (0, 0)) ∧ cs = #[.slice a rows.length c]) ∧ (w3 = w2.setCell ⟨m, 0, none⟩ (.slice a3 n3 c3) → Md w3 B m (rows ++ [r]) ∧ Mb mtag B w w3) := by
 have hrow : ∀ (k : Nat) (cs : Array Value) (t : TypeId), w.heap[k]? = some (Obj.cells cs t (0, 0)) → t ≠ 115 → w2.heap[k]? = some (Obj.cells cs t (0, 0)) := fun k cs t hk ht => by
  have hlt := (Array.getElem?_eq_some_iff.1 hk).1
  rw [hg.block k (Nat.lt_of_lt_of_le hlt hb.size) (fun e => by
   obtain ⟨-, -, cur, h3⟩ := OwnR.lt h2 e.symm
   exact Bj hk h3 ht rfl), hb.block k hlt, hk]
 have hs2 := hrow m _ _ h1 (by decide)
 have hBs := H.lt
 have hM : Mb mtag B w w2 := by
  refine ⟨⟨hg.os.trans hb.os, hg.tape.trans hb.tape, hg.output.trans hb.output, Nat.le_trans hb.size hg.size, fun k cs t hk ht => ?_⟩, ⟨hg.os.trans hb.os, hg.tape.trans hb.tape, hg.output.trans hb.output, Nat.le_trans hb.size hg.size, fun k hk => ?_⟩⟩
  ·rw [hrow k cs t hk (fun e => by rw [e] at ht; exact absurd ht (by decide)), hk]
  ·rw [hg.block k (by have := hb.size; omega) (fun e => by have := (OwnR.lt h2 e.symm).1; omega), hb.block k (by omega)]
 refine ⟨⟨_, hs2, rfl⟩, fun hw => ?_⟩
 subst hw
 have hM3 : Mb mtag B w2 (w2.setCell ⟨m, 0, none⟩ (.slice a3 n3 c3)) := Mb.set hs2 (by decide) H.low
 have hlr : (rows ++ [r]).length = rows.length + 1 := by simp
 have hMM := hM.trans hM3
 refine ⟨⟨⟨a3, c3, ?_, ?_⟩, fun q hq => ?_, ?_, by rw [hlr]; exact hf, fun q hq => ?_, H.low⟩, hMM⟩
 ·rw [Ak hs2, hlr, hn]; rfl
 ·rw [hlr, kcells_append, ← hn]
  refine OwnR.kept hO fun k hk => Ar ?_
  obtain ⟨-, -, cur, h3⟩ := OwnR.lt hO hk
  exact Bj h3 hs2 (by decide)
 ·rcases List.mem_append.1 hq with h | h
  ·exact (H.lst q h).mv hMM.mv (by decide)
  ·rw [List.mem_singleton] at h
   rw [h]; exact hl.mv hMM.mv (by decide)
 ·rw [List.map_append, List.nodup_append]
  refine ⟨H.nod, by simp, fun x hx y hy e => ?_⟩
  simp at hy
  subst hy
  subst e
  exact hk hx
 ·rcases List.mem_append.1 hq with h | h
  ·exact H.vle q h
  ·rw [List.mem_singleton] at h
   rw [h]; exact hv
def SlotR (w w' : World) (B m : Nat) (rows : List Kr) (k : BA) (e : Ending) : Prop :=
 ∃ (i : Nat) (rs : List Kr) (r : Kr), e = .returned (.int .i64 i) ∧ MTo w w' B m rs ∧ rs[i]? = some r ∧ r.nm = k ∧ (rs = rows ∨ rs = rows ++ [Kr.off k 0] ∧ k ∉ rows.map (·.nm))
theorem slot_any (w : World) (B m : Nat) (rows : List Kr) (k : BA) (H : Md w B m rows) (hl : rows.length < 1000) :
  Calls Tryz.prog 102 #[ptr m, .string k] w fun e w' => SlotR w w' B m rows k e := by
 have HD : Hid (Md w B m rows) := H
 clear H
 obtain ⟨n, hn⟩ : ∃ n, rows.length = n := ⟨_, rfl⟩
 have hfew : n < 1000 := by omega
 go_enter Tryz.func102, Tryz.ntmps102
 go_wp2
 go_loopg [5] (n + 1) (fun gk iv wr => w = wr ∧ ∃ i : Nat, iv = .int .i64 i ∧ i + gk = n + 1 ∧ i ≤ n ∧ Hid (∀ r ∈ rows.take i, r.nm ≠ k))
 case atStart => exact ⟨rfl, 0, rfl, by omega, by omega, fun r hr => absurd hr (by simp)⟩
 case round =>
  obtain ⟨rfl, i, rfl, hi, hin, HNo⟩ := hrel
  by_cases h1 : (i : Int) < n
  ·obtain ⟨r, hr⟩ := row_ex hn (show i < n by omega)
   obtain ⟨g, c, hh, hR, -⟩ := HD.out.fx hr
   rw [hn] at hh
   have k0 := hR.c0
   have hi9 : i * 9 ≤ 9000 := by omega
   have HHr : Hid (rows[i]? = some r) := hr
   have HTk : Hid (rows.take (i + 1) = rows.take i ++ [r]) := by show _ = _; rw [List.take_add_one, hr]; rfl
   clear hR hr
   by_cases hk : r.nm = k
   ·have hq := str_yes hk
    have HE : Hid (SlotR w w B m rows k (.returned (.int .i64 i))) := ⟨i, rows, r, rfl, ⟨Mb.refl _ _ _, HD.out⟩, HHr.out, hk, .inl rfl⟩
    clear hk
    go_wp2
    go_ret
    exact HE.out
   ·have hq := str_no hk
    have HN2 : Hid (∀ r ∈ rows.take (i + 1), r.nm ≠ k) := fun q hq => by
     rw [HTk.out] at hq
     rcases List.mem_append.1 hq with h | h
     ·exact HNo.out q h
     ·rw [List.mem_singleton] at h
      rw [h]; exact hk
    clear hk
    go_wp2
    go_roundg (gk - 1)
    case measure => omega
    case rel => exact ⟨rfl, i + 1, by go_num, by omega, by omega, HN2⟩
  ·obtain rfl : i = n := by omega
   have HK : Hid (k ∉ rows.map (·.nm)) := fun h => by
    obtain ⟨q, hq, e⟩ := List.mem_map.1 h
    exact HNo.out q (by rw [List.take_of_length_le (by omega)]; exact hq) e
   obtain ⟨a, c, h2, h3⟩ := HD.out.ex
   have HH2 : Hid (w.heap[m]? = some (.cells #[.slice a rows.length c] 104 (0, 0))) := h2
   have HO : Hid (OwnR w B 115 9 a i c (Bm rows)) := by rw [← hn]; exact h3
   have HH3 : Hid (OwnR w B 115 9 a rows.length c (Bm rows)) := h3
   have hh : w.cell? ⟨m, 0, none⟩ = some (.slice a i c) := by rw [← hn]; simp [World.cell?, h2]
   have hBl := HD.out.lt
   clear h2 h3
   go_wp2_with (at_builtin; refine Dk.append_r rfl (.tmp 30) (.tmp 33) rfl eltK B rfl (OwnR.keep HO.out (Ac w _)) (Kr.off k 0).cells rfl rfl (fun j u hu => new_cells w (Kr.off k 0).cells _ j u hu) (Kr.off k 0).one (by decide) (by omega) (by unfold maxLen; omega) (Nat.le_trans hBl (Ac w _).size) ?_; intro a3 n3 c3 w3 hn3 HO3 HG3 HW3; obtain ⟨⟨cs, hs3, hcs⟩, -⟩ := HD.out.more (w3 := w3) HH2.out HH3.out (Ac w _) HG3.out (r := Kr.off k 0) HO3.out (by rw [hn]; exact hn3) (RdL.nil _) HK.out (by omega) (off_low k); subst hcs; have m1 : w3.cell? ⟨m, 0, none⟩ = some (.slice a rows.length c) := (by simp [World.cell?, hs3]); have m2 : w3.frozen? ⟨m, 0, none⟩ = false := (by simp [World.frozen?, hs3]); have HGr : Hid (∀ w4, w4 = w3.setCell ⟨m, 0, none⟩ (.slice a3 n3 c3) → Md w4 B m (rows ++ [Kr.off k 0]) ∧ Mb mtag B w w4) := (fun w4 hw => (HD.out.more (w3 := w4) HH2.out HH3.out (Ac w _) HG3.out (r := Kr.off k 0) HO3.out (by rw [hn]; exact hn3) (RdL.nil _) HK.out (by omega) (off_low k)).2 hw); clear hs3 HO3 HG3 HW3)
   subst hn3
   obtain ⟨w4, hw4⟩ : ∃ w4, w3.setCell ⟨m, 0, none⟩ (.slice a3 (i + 1) c3) = w4 := ⟨_, rfl⟩
   obtain ⟨h4, h5⟩ := HGr.out w4 hw4.symm
   have HE : Hid (SlotR w w4 B m rows k (.returned (.int .i64 i))) := ⟨i, _, Kr.off k 0, rfl, ⟨h5, h4⟩, by rw [List.getElem?_append_right (by omega), hn, Nat.sub_self]; rfl, rfl, .inr ⟨rfl, HK.out⟩⟩
   clear h4 h5
   rw [hw4]
   go_ret
   exact HE.out
def A3 (rows : List Kr) : List BA := (rows.filter (·.th)).map (·.nm)
theorem namesR_snoc (rows : List Kr) (r : Kr) : A3 (rows ++ [r]) = A3 rows ++ (if r.th then [r.nm] else []) := by
 unfold A3
 rw [List.filter_append, List.map_append]
 cases h : r.th <;> simp [h]
theorem namesR_le (rows : List Kr) : (A3 rows).length ≤ rows.length := by
 unfold A3
 rw [List.length_map]
 exact List.length_filter_le _ _
def NamR (w w' : World) (B m : Nat) (rows : List Kr) (e : Ending) : Prop := MTo w w' B m rows ∧ ∃ a n c, e = .returned (.slice a n c) ∧ OwnS w' w.heap.size a n c (A3 rows)
theorem Names_any (w : World) (B m : Nat) (rows : List Kr) (t : Int) (H : Md w B m rows) (hv : LowM rows) :
  Calls Tryz.prog 62 #[ptr m, .int .i64 t] w fun e w' => NamR w w' B m (dueR t rows) e := by
 have HDu := due_any w B m rows t H hv
 have hBl := H.lt
 clear H
 go_enter Tryz.func62, Tryz.ntmps62
 go_wp2_with fail
 refine HDu.mono ?_
 rintro e w1 ⟨rfl, hm1, hd1⟩
 obtain ⟨rs, hrs⟩ : ∃ rs, dueR t rows = rs := ⟨_, rfl⟩
 rw [hrs] at hd1
 have HD : Hid (Md w1 B m rs) := hd1
 have HM : Hid (Mb mtag B w w1) := hm1
 have HRS : Hid (dueR t rows = rs) := hrs
 have hfew := hd1.few
 have hsz1 : w.heap.size ≤ w1.heap.size := hm1.mv.size
 clear hm1 hd1 hrs HDu
 obtain ⟨n, hn⟩ : ∃ n, rs.length = n := ⟨_, rfl⟩
 rw [hn] at hfew
 go_wp2
 go_loopg [5, 6] (n + 1) (fun gk ov iv wr => ∃ (i : Nat) (a : Option Addr) (q c : Nat), ov = .slice a q c ∧ iv = .int .i64 i ∧ i + gk = n + 1 ∧ i ≤ n ∧ Hid (OwnS wr w1.heap.size a q c (A3 (rs.take i))) ∧ Hid (Below w1.heap.size w1 wr))
 case atStart => exact ⟨0, none, 0, 0, rfl, rfl, by omega, by omega, OwnR.nil _ _ _ _, Below.refl _ _⟩
 case round =>
  obtain ⟨i, a, q, c, rfl, rfl, hi, hin, HO, HB⟩ := hrel
  have hsz : w1.heap.size ≤ wr.heap.size := HB.out.size
  by_cases h1 : (i : Int) < n
  ·obtain ⟨r, hr⟩ := row_ex hn (show i < n by omega)
   obtain ⟨g, c2, hh, hR, -⟩ := (HD.out.keep HB.out).fx hr
   rw [hn] at hh
   have k0 := hR.c0
   have k1 := hR.c1
   have hi9 : i * 9 ≤ 9000 := by omega
   have HTk : Hid (A3 (rs.take (i + 1)) = A3 (rs.take i) ++ (if r.th then [r.nm] else [])) := by show _ = _; rw [List.take_add_one, hr]; exact namesR_snoc _ _
   have HQ : Hid (q + 1 ≤ 1000000) := by
    have h2 := Dk.OwnS.len HO.out
    have h3 := namesR_le (rs.take i)
    rw [List.length_take] at h3
    show _ ≤ _
    omega
   clear hR hr
   cases hth : r.th with
   | true =>
    rw [hth] at k1 HTk
    replace HTk : Hid (A3 (rs.take (i + 1)) = A3 (rs.take i) ++ [r.nm]) := HTk
    clear hth
    go_wp2_with (at_builtin; refine Dk.append_s rfl (.tmp 27) (.tmp 36) rfl w1.heap.size rfl (OwnR.keep HO.out (Ac wr _)) rfl (by simp; rfl) HQ.out (Nat.le_trans hsz (Ac wr _).size) ?_; intro a3 n3 c3 w3 hn3 HO3 HG3 HW3; have HB3 : Hid (Below w1.heap.size w1 w3) := (HB.out.trans ((Ac wr _).mono hsz)).trans (OwnR.below (OwnR.keep HO.out (Ac wr _)) HG3.out (Nat.le_trans hsz (Ac wr _).size)))
    go_roundg (gk - 1)
    case measure => omega
    case rel => exact ⟨i + 1, _, _, _, rfl, by go_num, by omega, by omega, by rw [HTk.out, ← hn3]; exact HO3, HB3⟩
   | false =>
    rw [hth] at k1 HTk
    replace HTk : Hid (A3 (rs.take (i + 1)) = A3 (rs.take i)) := by have h := HTk.out; simp at h; exact h
    clear hth
    go_wp2
    go_roundg (gk - 1)
    case measure => omega
    case rel => exact ⟨i + 1, a, q, c, rfl, by go_num, by omega, by omega, by rw [HTk.out]; exact HO, HB⟩
  ·have HE : Hid (NamR w wr B m (dueR t rows) (.returned (.slice a q c))) := by
    show NamR w wr B m (dueR t rows) _
    rw [HRS.out]
    refine ⟨⟨HM.out.trans (Mb.of_below HB.out HD.out.lt), HD.out.keep HB.out⟩, a, q, c, rfl, ?_⟩
    have h := HO.out
    rw [List.take_of_length_le (by omega)] at h
    exact Dk.OwnR.low h hsz1
   obtain ⟨a2, c2, hh⟩ := (HD.out.keep HB.out).head
   rw [hn] at hh
   go_wp2
   go_ret
   exact HE.out
def fluK (r : Kr) : Kr := if r.th = true then Kr.off r.nm (r.ver + 1) else r
def fluI (rows : List Kr) (i : Nat) : List Kr := (rows.take i).map fluK ++ rows.drop i
theorem fluI_len (rows : List Kr) (i : Nat) : (fluI rows i).length = rows.length := by
 unfold fluI
 rw [List.length_append, List.length_map, List.length_take, List.length_drop]
 omega
theorem fluI_get (rows : List Kr) {i : Nat} {r : Kr} (h : rows[i]? = some r) : (fluI rows i)[i]? = some r := by
 have hi := B1 h
 unfold fluI
 rw [List.getElem?_append_right (by rw [List.length_map, List.length_take]; omega), List.length_map, List.length_take, List.getElem?_drop, Nat.min_eq_left (by omega), Nat.sub_self, Nat.add_zero, h]
theorem fluI_step (rows : List Kr) {i : Nat} {r : Kr} (h : rows[i]? = some r) : (fluI rows i).set i (fluK r) = fluI rows (i + 1) := by
 have hi := B1 h
 unfold fluI
 have h1 : rows.drop i = r :: rows.drop (i + 1) := by
  rw [List.drop_eq_getElem_cons hi]
  congr 1
  exact (List.getElem?_eq_some_iff.1 h).2
 rw [h1, List.set_append_right _ _ (by rw [List.length_map, List.length_take]; omega), List.length_map, List.length_take, Nat.min_eq_left (by omega), Nat.sub_self, List.set_cons_zero, List.take_add_one, h, Option.toList_some, List.map_append, List.append_assoc]
 rfl
theorem FlushM_any (w : World) (B m : Nat) (rows : List Kr) (H : Md w B m rows) (hv : LowM rows) :
  Calls Tryz.prog 63 #[ptr m] w fun e w' => e = .returned (.tuple #[]) ∧ MTo w w' B m (rows.map fluK) := by
 have H0 : Hid (Md w B m rows) := H
 have hfew := H.few
 clear H
 obtain ⟨n, hn⟩ : ∃ n, rows.length = n := ⟨_, rfl⟩
 rw [hn] at hfew
 go_enter Tryz.func63, Tryz.ntmps63
 go_wp2
 go_loopg [2] (n + 1) (fun gk iv wr => ∃ i : Nat, iv = .int .i64 i ∧ i + gk = n + 1 ∧ i ≤ n ∧ Hid (Md wr B m (fluI rows i)) ∧ Hid (Mb mtag B w wr))
 case atStart => exact ⟨0, rfl, by omega, by omega, by unfold fluI; simpa using H0, Mb.refl _ _ _⟩
 case round =>
  obtain ⟨i, rfl, hi, hin, HD, HM⟩ := hrel
  have hlen : (fluI rows i).length = n := by rw [fluI_len, hn]
  by_cases h1 : (i : Int) < n
  ·obtain ⟨r, hr⟩ := row_ex hn (show i < n by omega)
   have hri := fluI_get rows hr
   obtain ⟨g, c, hF⟩ := HD.out.fx hri
   rw [hlen] at hF
   obtain ⟨hha, ⟨m0, m1, m2, m3, m4, m5, m6, m7, m8⟩, hfa⟩ := hF
   have hi9 : i * 9 ≤ 9000 := by omega
   have hvr := hv r (List.mem_of_getElem? hr)
   have hv1 := hvr.1
   have hv2 := hvr.2
   cases hth : r.th with
   | true =>
    rw [hth] at m1
    have HK : Hid (fluK r = Kr.off r.nm (r.ver + 1)) := if_pos hth
    have hhd : wr.drew.cell? ⟨m, 0, none⟩ = some (.slice (some ⟨g, 0, none⟩) n c) := hha
    have n0 : wr.drew.cell? ⟨g, i * 9, none⟩ = some (.string r.nm) := m0
    have n8 : wr.drew.cell? ⟨g, i * 9 + 8, none⟩ = some (.int .u64 r.ver) := m8
    have hfd : ∀ o, wr.drew.frozen? ⟨g, o, none⟩ = false := hfa
    have HS : Hid (∀ wz, wz = wr.setCells g (i * 9) (Kr.off r.nm (r.ver + 1)).cells → Md wz B m (fluI rows (i + 1)) ∧ Mb mtag B wr wz) := fun wz hz => by
     have h := HD.out.set (i := i) (by rw [hlen]; omega) (by rw [hlen]; exact hha) (r := Kr.off r.nm (r.ver + 1)) (nm_get hri).symm (RdL.nil _) ⟨by show 0 ≤ r.ver + 1; omega, by show r.ver + 1 < _; omega⟩ hz
     rw [← HK.out, fluI_step rows hr] at h
     exact h
    clear hth
    go_upto_region 4 with fail
    go_region
    obtain ⟨wz, hwz⟩ : ∃ wz, wr.setCells g (i * 9) (Kr.off r.nm (r.ver + 1)).cells = wz := ⟨_, rfl⟩
    obtain ⟨hz1, hz2⟩ := HS.out wz hwz.symm
    have HD1 : Hid (Md wz.drew B m (fluI rows (i + 1))) := hz1.keep (Aa wz 1)
    have HM1 : Hid (Mb mtag B w wz.drew) := (HM.out.trans hz2).trans (Mb.of_below (Aa wz 1) hz1.lt)
    subst hwz
    clear hz1 hz2
    go_wp2
    go_roundg (gk - 1)
    case measure => omega
    case rel => exact ⟨i + 1, by go_num, by omega, by omega, HD1, HM1⟩
   | false =>
    rw [hth] at m1
    have HD1 : Hid (Md wr B m (fluI rows (i + 1))) := by
     have h := fluI_step rows hr
     rw [show fluK r = r from if_neg (by rw [hth]; decide), set_same hri] at h
     show Md wr B m (fluI rows (i + 1))
     rw [← h]
     exact HD.out
    clear hth
    go_wp2
    go_roundg (gk - 1)
    case measure => omega
    case rel => exact ⟨i + 1, by go_num, by omega, by omega, HD1, HM⟩
  ·have HE : Hid (MTo w wr B m (rows.map fluK)) := ⟨HM.out, by
    have h := HD.out
    unfold fluI at h
    rw [List.take_of_length_le (by omega), List.drop_of_length_le (by omega), List.append_nil] at h
    exact h⟩
   obtain ⟨a, c, hh⟩ := HD.out.head
   rw [hlen] at hh
   go_wp2
   go_end0
   exact ⟨rfl, HE.out⟩
end Go.Proofs.YtmjeljldmmkcpaaGreat.Sq

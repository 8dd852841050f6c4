/- Texts that the others stand on. -/
import Derived.Test.YtikimcbalkhooaaGreatG10
namespace Go.Proofs.YtikimcbalkhooaaGreat
open Go.RowKit Go.PlainAid
open Dk (En Stay hasK putE getE keysOf Dct Dg dtag ecells Turn)
abbrev cblk (x E T : Nat) : Array Value := #[.int .u64 (x : Nat), .int .i64 (E : Nat), .int .i64 (T : Nat), .pointer none, .pointer none]
theorem Hb.new (w : World) (x E T : Nat) : Hb (w.alloc (.cells (cblk x E T) 83)) w.heap.size x E T (.pointer none) (.pointer none) := ⟨heap_alloc_new w _⟩
set_option maxRecDepth 100000 in
set_option maxHeartbeats 4000000 in
theorem Copy_small (B m x E T p : Nat) (a : Option Addr) (n c : Nat) (es : List En) (w : World) (h : Small w B m x E T p a n c es) :
  Calls Tryz.prog 48 #[ptr m] w fun e w' => Below w.heap.size w w' ∧ ∃ m' p' a' n' c', e = .returned (ptr m') ∧ Small w' w.heap.size m' x E T p' a' n' c' es := by
 have HS : Hid (Small w B m x E T p a n c es) := h
 obtain ⟨wa, hwa⟩ : ∃ wa, wa = (w.alloc (.cells (cblk x E T) 83)).drew := ⟨_, rfl⟩
 have hba : Below w.heap.size w wa := by rw [hwa]; exact (alloc_below w _).trans ((below_drewN _ 1).mono (alloc_below w _).size)
 have HBa : Hid (Below w.heap.size w wa) := hba
 have HNew : Hid (Hb wa w.heap.size x E T (.pointer none) (.pointer none)) := by rw [hwa]; exact (Hb.new w x E T).keep (below_drewN _ 1)
 have hb0 : Below w.heap.size w w.drew := below_drewN w 1
 have hd0 := (h.blk.keep hb0).cx
 have hd1 := (h.blk.keep hb0).cE
 have hd2 := (h.blk.keep hb0).cT
 have HSa := h.keep hba
 have HP := Packed_yes m x E T _ wa HSa.blk
 have hcs := HSa.blk.cs
 have HC := Copy_any B p a n c (flat es) wa HSa.pk (by have := h.max; omega)
 clear h hb0 HSa hba
 go_enter Tryz.func48, Tryz.ntmps48
 go_wp2_with fail
 go_region
 rw [← hwa]
 have hlt : w.heap.size < wa.heap.size := HNew.out.lt
 clear hwa
 go_wp2_with fail
 refine HP.mono ?_
 rintro e w1 ⟨rfl, rfl⟩
 go_wp2_with fail
 refine HC.mono ?_
 rintro e w2 ⟨hb, p', a', n', c', rfl, hP⟩
 have hN2 := HNew.out.keep hb
 have hc3 := hN2.cs
 have hf3 := hN2.fz 3
 have HR : Hid (Small (w2.setCell ⟨w.heap.size, 3, none⟩ (ptr p')) w.heap.size w.heap.size x E T p' a' n' c' es) := by
  have hst : Stay w2 (w2.setCell ⟨w.heap.size, 3, none⟩ (ptr p')) [w.heap.size] := Stay.set
  have hpl := hP.low
  refine Small.mk (hN2.setS _) ⟨?_, Nat.le_trans (Nat.le_of_lt hlt) hpl, ?_⟩ (Nat.le_refl _) HS.out.le HS.out.sz HS.out.nod HS.out.hE HS.out.hT
  ·rw [hst.block p' hP.lt (by simp only [List.mem_singleton]; omega)]; exact hP.blk
  ·exact Dk.OwnR.low (Dk.OwnR.stay (hP.own : Dk.OwnR w2 w1.heap.size 5 1 a' n' c' _) hst (fun k hk hm => by have := (Dk.OwnR.lt (hP.own : Dk.OwnR w2 w1.heap.size 5 1 a' n' c' _) hk).1; simp only [List.mem_singleton] at hm; omega)) (Nat.le_of_lt hlt)
 have HB2 := step_below HBa hb
 have HB3 : Hid (Below w.heap.size w (w2.setCell ⟨w.heap.size, 3, none⟩ (ptr p'))) := HB2.out.trans ((Stay.set (w := w2) (q := w.heap.size) (o := 3) (v := ptr p')).below (fun i hi => by simp only [List.mem_singleton] at hi; omega) HB2.out.size)
 clear hb hP hN2 HC
 go_wp2
 go_ret
 exact ⟨HB3.out, _, p', a', n', c', rfl, HR.out⟩
set_option maxRecDepth 100000 in
set_option maxHeartbeats 4000000 in
theorem Copy_large (B m x E T d : Nat) (D : Dg) (w : World) (h : Large w B m x E T d D) (hB : B ≤ w.heap.size) (hle : D.es.length < 1000000) :
  Calls Tryz.prog 48 #[ptr m] w fun e w' => Below w.heap.size w w' ∧ ∃ m' d' D', e = .returned (ptr m') ∧ Large w' w.heap.size m' x E T d' D' ∧ D'.es.Perm D.es := by
 have HS : Hid (Large w B m x E T d D) := h
 obtain ⟨wa, hwa⟩ : ∃ wa, wa = (w.alloc (.cells (cblk x E T) 83)).drew := ⟨_, rfl⟩
 have hba : Below w.heap.size w wa := by rw [hwa]; exact (alloc_below w _).trans ((below_drewN _ 1).mono (alloc_below w _).size)
 have HBa : Hid (Below w.heap.size w wa) := hba
 have HNew : Hid (Hb wa w.heap.size x E T (.pointer none) (.pointer none)) := by rw [hwa]; exact (Hb.new w x E T).keep (below_drewN _ 1)
 have hb0 : Below w.heap.size w w.drew := below_drewN w 1
 have hd0 := (h.blk.keep hb0).cx
 have hd1 := (h.blk.keep hb0).cE
 have hd2 := (h.blk.keep hb0).cT
 have HSa := h.keep hba
 have HP := Packed_no m x E T d _ wa HSa.blk
 have hbd : Below wa.heap.size wa wa.drew := below_drewN wa 1
 have HBd : Hid (Below w.heap.size w wa.drew) := hba.trans (hbd.mono hba.size)
 have hcd := (HSa.keep hbd).blk.cx
 have HA := All_large B m x E T d D wa.drew (HSa.keep hbd) (Nat.le_trans hB HBd.out.size)
 have hxs := h.dc.seed
 have HLe : Hid (D.es.length < 1000000) := hle
 clear h hb0 HSa hba hbd
 go_enter Tryz.func48, Tryz.ntmps48
 go_wp2_with fail
 go_region
 rw [← hwa]
 have hlt : w.heap.size < wa.heap.size := HNew.out.lt
 clear hwa
 go_wp2_with fail
 refine HP.mono ?_
 rintro e w1 ⟨rfl, rfl⟩
 go_upto_region 4 with fail
 go_cut [24, 31] from 25 to 33 (fun u24 u31 wx => ∃ wy w3 d' D', wy = wx ∧ wy = w3.setCell ⟨w.heap.size, 4, none⟩ (ptr d') ∧ Hid (Below w.heap.size w w3) ∧ Hid (Hb w3 w.heap.size x E T (.pointer none) (.pointer none)) ∧ Hid (Dct w3 w1.heap.size d' x D') ∧ Hid (D'.es.Perm D.es))
 case first =>
  go_region_with (first
   | (go_at_call 35; refine HA.mono ?_; rintro e w2 ⟨hb, a2, n2, c2, fs, rfl, hO2, hp2⟩; have HB2 := step_below HBd hb; have HO2 : Hid (OwnQ w2 w1.heap.size a2 n2 c2 fs ∧ fs.Perm D.es) := ⟨hO2, hp2⟩; have hcx := (HS.out.keep HB2.out).blk.cx; have HBv : Hid (Below w1.heap.size w1 w2) := (below_drewN w1 1).trans hb; clear hb hO2 hp2)
   | (go_at_call 85; refine (dictOf_any w1.heap.size x a2 n2 c2 fs _ hxs HO2.out.1 (HS.out.sz.perm HO2.out.2.symm) ((HO2.out.2.map Prod.fst).nodup_iff.2 HS.out.dc.nodk) (by have := HO2.out.2.length_eq; have := OwnQ.len HO2.out.1; have := HLe.out; omega)).mono ?_; rintro e w3 ⟨hb, d', D', rfl, hD, hp⟩; have HB3 := step_below HB2 hb; have HBu : Hid (Below w1.heap.size w1 w3) := step_below HBv hb; have HD3 : Hid (Dct w3 w1.heap.size d' x D') := Dct.lower hD HBv.out.size; have HE3 : Hid (D'.es.Perm D.es) := hp.trans HO2.out.2; have hN3 := HNew.out.keep HBu.out; have hcl := hN3.cl; have hfz := hN3.fz 4; clear hb hD hp hN3))
  all_goals
   go_wp2
   go_meet
   exact ⟨_, w3, d', D', rfl, rfl, HB3, HNew.out.keep HBu.out, HD3, HE3⟩
 case rest =>
 obtain ⟨wx, w3, d', D', rfl, hwx, HB3, HN3, HD3, HE3⟩ := hcut
 have HR : Hid (Large wx w.heap.size w.heap.size x E T d' D') := by
  have hst : Stay w3 (w3.setCell ⟨w.heap.size, 4, none⟩ (ptr d')) [w.heap.size] := Stay.set
  rw [hwx]
  refine Large.mk (HN3.out.setL _) (Dct.lower (HD3.out.stay hst (fun k hk hm => by have := (HD3.out.fplt k hk).1; simp only [List.mem_singleton] at hm; omega)) (Nat.le_of_lt hlt)) (Nat.le_refl _) (HS.out.sz.perm HE3.out.symm) HS.out.hE HS.out.hT
 have HB4 : Hid (Below w.heap.size w wx) := by
  rw [hwx]
  exact HB3.out.trans ((Stay.set (w := w3) (q := w.heap.size) (o := 4) (v := ptr d')).below (fun i hi => by simp only [List.mem_singleton] at hi; omega) HB3.out.size)
 clear hwx HA
 go_wp2
 go_ret
 exact ⟨HB4.out, _, d', D', rfl, HR.out, HE3.out⟩
theorem CopyH (B m x E T : Nat) (es : List En) (pk : Bool) (F : List Nat) (w : World) (h : Hm w B m x E T es pk F) (hle : es.length < 1000000) :
  Calls Tryz.prog 48 #[ptr m] w fun e w' => Below w.heap.size w w' ∧ ∃ m' F', e = .returned (ptr m') ∧ Hm w' w.heap.size m' x E T es pk F' := by
 obtain ⟨h1, h2, h3⟩ := h
 rcases h3 with ⟨rfl, p, a, n, c, fs, h4, h5, rfl⟩ | ⟨rfl, d, D, h4, h5, rfl⟩
 ·refine (Copy_small B m x E T p a n c fs w h4).mono ?_
  rintro e w' ⟨hb, m', p', a', n', c', rfl, h6⟩
  exact ⟨hb, m', _, rfl, h1, hb.size, .inl ⟨rfl, p', a', n', c', fs, h6, h5, rfl⟩⟩
 ·refine (Copy_large B m x E T d D w h4 h2 (by rw [h5.length_eq]; exact hle)).mono ?_
  rintro e w' ⟨hb, m', d', D', rfl, h6, h7⟩
  exact ⟨hb, m', _, rfl, h1, hb.size, .inr ⟨rfl, d', D', h6, h7.trans h5, rfl⟩⟩
end Go.Proofs.YtikimcbalkhooaaGreat

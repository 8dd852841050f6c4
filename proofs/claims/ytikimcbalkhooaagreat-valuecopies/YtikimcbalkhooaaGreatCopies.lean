/-
 ValueCopies.
-/
import Derived.Test.YtikimcbalkhooaaGreatG32
import Derived.Test.YtikimcbalkhooaaGreatG28
namespace Go.Proofs.YtikimcbalkhooaaGreat
open Go.RowKit Go.PlainAid
open Dk (En keysOf hasK putE ecells)

theorem sameD_refl (d : VD) : sameD d d := by
 cases d with
 | txt t => rfl
 | hsh es => exact List.Perm.refl _
 | set l => exact List.Perm.refl _
 | lst l => rfl
theorem EqR.is {w w' : World} {e : Ending} {P : Prop} (h : EqR w w' e P) (hp : P) : e = .returned (.bool true) ∧ Below w.heap.size w w' := by
 obtain ⟨h1, r, h2, h3⟩ := h
 exact ⟨by rw [h2, h3.2 hp], h1⟩
theorem EqR.isnt {w w' : World} {e : Ending} {P : Prop} (h : EqR w w' e P) (hp : ¬ P) : e = .returned (.bool false) ∧ Below w.heap.size w w' := by
 obtain ⟨h1, r, h2, h3⟩ := h
 cases r
 ·exact ⟨h2, h1⟩
 ·exact absurd (h3.1 rfl) hp
set_option maxRecDepth 100000 in
set_option maxHeartbeats 8000000 in
theorem copiesV_any (dv : Value) (x : Nat) (more : ByteArray) (w : World) (hx : x < 18446744073709551616) (hd : Drw w dv) :
  Calls Tryz.prog 5 #[dv, .int .u64 x, .string more] w fun e w' => e = .returned (.bool true) ∧ Below w.heap.size w w' := by
 obtain ⟨k, t, pa, pn, pc, es, la, ln, lc, ls, rfl, h2, h3⟩ := hd
 have HCu := fun w => Cut_any more 20 w (by decide)
 have hcu : (cutB more 20).size ≤ 20 := by have := size_cutB more 20 (by decide); omega
 generalize cutB more 20 = cu at HCu hcu
 obtain ⟨w1, hw0⟩ : ∃ w1, w.alloc (.cells #[.int .i64 k, .string t, .slice pa pn pc, .slice la ln lc] 25) = w1 := ⟨_, rfl⟩
 have hb : Below w.heap.size w w1 := by rw [← hw0]; exact alloc_below w _
 have HB1 : Hid (Below w.heap.size w w1) := hb
 have hc : ∀ i u, (#[.int .i64 k, .string t, .slice pa pn pc, .slice la ln lc] : Array Value)[i]? = some u → w1.cell? ⟨w.heap.size, i, none⟩ = some u := fun i u hu => by
  rw [← hw0]; exact cell_new w _ _ i _ hu
 have hc0 := hc 0 _ rfl
 have hc1 := hc 1 _ rfl
 have hc2 := hc 2 _ rfl
 have hc3 := hc 3 _ rfl
 have HPl := plainV_any w1 (.agg #[.int .i64 k, .string t, .slice pa pn pc, .slice la ln lc]) ⟨k, t, pa, pn, pc, es, la, ln, lc, ls, rfl, h2.keep hb, h3.keep hb⟩
 clear hb hc h2 h3
 go_enter Tryz.func5, Tryz.ntmps5
 go_wp2_with fail
 refine HPl.mono ?_
 rintro en w2 ⟨hb, va, d, rfl, hV, hf, hon⟩
 have HB2 : Hid (Below w1.heap.size w1 w2) := hb
 obtain ⟨ut, ua, un, uc, ua', un', uc', hva⟩ := hV.shape
 obtain ⟨w3, hw3⟩ : ∃ w3, w2.alloc (.cells #[.int .i64 (d.kind : Nat), .string ut, .slice ua un uc, .slice ua' un' uc'] 29) = w3 := ⟨_, rfl⟩
 have hb3 : Below w2.heap.size w2 w3 := by rw [← hw3]; exact alloc_below w2 _
 have hl2 : w2.heap.size < w3.heap.size := by rw [← hw3]; exact alloc_lt w2 _ _
 have HB3 := step_below HB2 hb3
 obtain ⟨w4, hw4⟩ : ∃ w4, w3.alloc (.cells #[.int .i64 4, .int .i64 10] 28) = w4 := ⟨_, rfl⟩
 have hb4 : Below w3.heap.size w3 w4 := by rw [← hw4]; exact alloc_below w3 _
 have hl3 : w3.heap.size < w4.heap.size := by rw [← hw4]; exact alloc_lt w3 _ _
 have HB4 := step_below HB3 hb4
 have HV4 : Hid (Vl w4 w1.heap.size d va) := (hV.keep hb3).keep hb4
 have HCV : Hid (∀ wx, Below w4.heap.size w4 wx → wx.cell? ⟨w2.heap.size, 0, none⟩ = some (.int .i64 (d.kind : Nat)) ∧ wx.cell? ⟨w2.heap.size, 1, none⟩ = some (.string ut) ∧ wx.cell? ⟨w2.heap.size, 2, none⟩ = some (.slice ua un uc) ∧ wx.cell? ⟨w2.heap.size, 3, none⟩ = some (.slice ua' un' uc') ∧ wx.cell? ⟨w3.heap.size, 0, none⟩ = some (.int .i64 4) ∧ wx.cell? ⟨w3.heap.size, 1, none⟩ = some (.int .i64 10)) := fun wx hx => by
  have hq : ∀ i u, (#[.int .i64 (d.kind : Nat), .string ut, .slice ua un uc, .slice ua' un' uc'] : Array Value)[i]? = some u → wx.cell? ⟨w2.heap.size, i, none⟩ = some u := fun i u hu => by
   rw [hx.cell (p := ⟨w2.heap.size, i, none⟩) (Nat.lt_trans hl2 hl3), hb4.cell (p := ⟨w2.heap.size, i, none⟩) hl2, ← hw3]; exact cell_new w2 _ _ i _ hu
  refine ⟨hq 0 _ rfl, hq 1 _ rfl, hq 2 _ rfl, hq 3 _ rfl, ?_, ?_⟩
  ·rw [hx.cell (p := ⟨w3.heap.size, 0, none⟩) hl3, ← hw4]; exact cell_new w3 _ _ 0 _ rfl
  ·rw [hx.cell (p := ⟨w3.heap.size, 1, none⟩) hl3, ← hw4]; exact cell_new w3 _ _ 1 _ rfl
 have HF : Hid (d.few ∧ d.once) := ⟨hf, hon⟩
 have HM := made_any x 4 10 w1.heap.size d va w4 hx HV4.out hf.ok hon
 obtain ⟨c0, c1, c2, c3, c4, c5⟩ := HCV.out w4 (Below.refl _ _)
 subst hva
 have hl9 : w2.heap.size < w3.heap.size := hl2
 clear hb hV hf hon hb3 hb4 hl2 HPl hc0 hc1 hc2 hc3
 go_wp2_with fail
 refine HM.mono ?_
 rintro en w5 ⟨hb, v, F, one, rfl, hP⟩
 have HB5 : Hid (Below w4.heap.size w4 w5) := hb
 have HP : Hid (PV w5 w4.heap.size v d one F) := hP
 have HCp := CopyV w5 _ v d one F hP HF.out.1.ok
 clear hb hP HM c0 c1 c2 c3 c4 c5
 go_wp2_with fail
 refine HCp.mono ?_
 rintro en w6 ⟨hb, v2, F2, rfl, hP2⟩
 have HB6 : Hid (Below w5.heap.size w5 w6) := hb
 have HP6 : Hid (PV w6 w5.heap.size v2 d one F2) := hP2
 have hvn : v ≠ v2 := by have h1 := HP.out.lt; have h2 := hP2.low; omega
 have HSm1 := SameV w6 _ v d one F _ v2 d one F2 (HP.out.keep hb) hP2 hvn HF.out.1.dozen
 clear hb hP2 HCp
 go_wp2_with fail
 refine HSm1.mono ?_
 rintro en w7 heq
 obtain ⟨rfl, hb⟩ := heq.is (sameD_refl d)
 have HB7 : Hid (Below w5.heap.size w5 w7) := step_below HB6 hb
 have HP7 : Hid (PV w7 w5.heap.size v2 d one F2) := HP6.out.keep hb
 have HE1 := EncodingV w7 _ v2 d one F2 HP7.out HF.out.1.ok
 clear hb heq HSm1
 go_wp2_with fail
 refine HE1.mono ?_
 rintro en w8 ⟨rfl, hb⟩
 have HB8 := step_below HB7 hb
 have HP8 : Hid (PV w8 w5.heap.size v2 d one F2) := HP7.out.keep hb
 have HE2 := EncodingV w8 _ v d one F (HP.out.keep HB8.out) HF.out.1.ok
 clear hb HE1
 go_wp2_with fail
 refine HE2.mono ?_
 rintro en w9 ⟨rfl, hb⟩
 have HB9 := step_below HB8 hb
 have HP9 : Hid (PV w9 w5.heap.size v2 d one F2) := HP8.out.keep hb
 clear hb HE2 HP8 HP7 HP6 HB8 HB7 HB6
 generalize d.enc one = enc1
 have HT : Hid (∀ wx, Below w5.heap.size w5 wx → Calls Tryz.prog 9 #[ptr v, .agg #[.int .i64 (d.kind : Nat), .string ut, .slice ua un uc, .slice ua' un' uc'], .agg #[.int .i64 4, .int .i64 10]] wx fun e w' => e = .returned (.bool true) ∧ Below wx.heap.size wx w') := fun wx hx => tellsV_any _ _ v d one F _ 4 10 wx (HP.out.keep hx) ((HV4.out.keep HB5.out).keep hx) HF.out.1.ok
 have HSm : Hid (∀ wx wy d' o' F', Below w5.heap.size w5 wx → Below wx.heap.size wx wy → PV wx w5.heap.size v2 d' o' F' → ¬ sameD d d' → Calls Tryz.prog 11 #[ptr v, ptr v2] wy fun e w' => e = .returned (.bool false) ∧ Below wy.heap.size wy w') := fun wx wy d' o' F' hx hy hp hn => by
  refine (SameV wy _ v d one F _ v2 d' o' F' ((HP.out.keep hx).keep hy) (hp.keep hy) hvn HF.out.1.dozen).mono ?_
  intro e w' h
  exact h.isnt hn
 go_upto_region 9 with fail
 go_cut [11] from 38 to 41 (fun u wx => w9 = wx ∧ ∃ X : ByteArray, u = .string X ∧ Hid (21 ≤ X.size ∧ X.size ≤ 100))
 case first =>
  go_wp2_with fail
  refine (HCu _).mono ?_
  rintro e wx ⟨rfl, rfl⟩
  go_wp2
  go_meet
  refine ⟨rfl, _, rfl, ?_⟩
  show _ ∧ _
  rw [ByteArray.size_append, ByteArray.size_append]
  have e1 : (⟨#[109, 111, 114, 101, 32]⟩ : ByteArray).size = 5 := rfl
  have e2 : (⟨#[32, 116, 104, 97, 110, 32, 116, 104, 101, 114, 101, 32, 119, 97, 115, 44, 32, 98, 121, 32, 102, 97, 114]⟩ : ByteArray).size = 23 := rfl
  rw [e1, e2]
  omega
 case rest =>
 obtain ⟨rfl, X, rfl, HX⟩ := hcut
 obtain ⟨q0, q1, q2, q3, q4, q5⟩ := HCV.out w9 (HB5.out.trans (HB9.out.mono HB5.out.size))
 have hX := HX.out.2
 cases d with
 | txt t0 =>
  simp only [VD.kind] at q0
  have hsz : t0.size ≤ 60 := HF.out.1
  obtain ⟨t1, a1, b1, c1', k1, e1⟩ := HP9.out.ex
  obtain ⟨rfl, rfl, rfl, rfl, rfl⟩ := e1
  have u1 := k1.ct
  have f1 := k1.fz 1
  have hv5 := HP9.out.low
  obtain ⟨Y, hY⟩ : ∃ Y, t1 ++ (⟨#[122]⟩ : ByteArray) = Y := ⟨_, rfl⟩
  have hYs : Y.size = t1.size + 1 := by rw [← hY, ByteArray.size_append]; rfl
  obtain ⟨wA, hwA⟩ : ∃ wA, w9.setCell ⟨v2, 1, none⟩ (.string Y) = wA := ⟨_, rfl⟩
  have HBA : Hid (Below w5.heap.size w5 wA) := by
   rw [← hwA]
   exact HB9.out.trans ((Stay.set (w := w9) (q := v2) (o := 1) (v := .string Y)).below (fun j hj => by simp only [List.mem_singleton] at hj; omega) HB9.out.size)
  have HPA : Hid (PV wA w5.heap.size v2 (.txt Y) one []) := ⟨⟨Y, _, _, _, ⟨by rw [← hwA, Dk.heap_set k1.blk]; rfl⟩, rfl, rfl, rfl, rfl, rfl⟩, hv5, HBA.out.size⟩
  have HNs : Hid (¬ sameD (.txt t1) (.txt Y)) := fun h => by
   have : t1.size = Y.size := congrArg ByteArray.size h
   omega
  have hY2 : Y.size ≤ 61 := by omega
  clear k1 hYs
  obtain ⟨z0, z1, z2, z3, z4, z5⟩ := HCV.out wA (HB5.out.trans (HBA.out.mono HB5.out.size))
  have HTA := HT.out wA HBA.out
  simp only [VD.kind] at z0 HTA
  go_wp2_with fail
  refine HTA.mono ?_
  rintro en wB ⟨rfl, hb⟩
  have HSA := HSm.out wA wB _ _ _ HBA.out hb HPA.out HNs.out
  have HBB := step_below HBA hb
  clear hb HTA
  go_wp2_with fail
  refine HSA.mono ?_
  rintro en wC ⟨rfl, hb⟩
  have HBC := step_below HBB hb
  have HBw := step_below HB1 (step_below HB4 (step_below HB5 HBC.out).out).out
  clear hb HSA
  go_wp2_with fail
  refine (known_v _).mono ?_
  rintro en wD ⟨rfl, hb⟩
  have HBD := step_below HBw hb
  go_wp2
  go_ret
  exact ⟨rfl, HBD.out⟩
 | hsh es0 =>
  simp only [VD.kind] at q0
  obtain ⟨m2, x2, E2, T2, k2, hH⟩ := HP9.out.hash
  have u2 := k2.ch
  have hv5 := HP9.out.low
  have HKn : Hid (X ∉ keysOf es0) := fun hm => by
   obtain ⟨e, he, hk⟩ := List.mem_map.1 hm
   have h1 := (HF.out.1.2 e he).1
   have h2 := HX.out.1
   rw [hk] at h1
   omega
  have HS := SetH _ m2 x2 E2 T2 es0 one F2 X X w9 hH (by omega) (by omega) (by have := HF.out.1.1; omega)
  rw [putE_new HKn.out] at HS
  have HVB : Hid (VB w9 v2 2 ⟨#[]⟩ (ptr m2) (.pointer none) (.pointer none)) := k2
  have HH : Hid (Hm w9 w5.heap.size m2 x2 E2 T2 es0 one F2) := hH
  have HNs : Hid (¬ sameD (.hsh es0) (.hsh (es0 ++ [(X, X)]))) := fun h => by
   have := List.Perm.length_eq h
   rw [List.length_append, List.length_singleton] at this
   omega
  clear k2 hH
  go_wp2_with fail
  refine HS.mono ?_
  rintro en wA ⟨rfl, hto⟩
  have HBA : Hid (Below w5.heap.size w5 wA) := HB9.out.trans (hto.below HH.out)
  have hVA := HVB.out.hto HH.out hto
  obtain ⟨FA, hHA, -, -⟩ := hto
  have HPA : Hid (PV wA w5.heap.size v2 (.hsh (es0 ++ [(X, X)])) _ FA) := PV.of_hash hVA hHA hv5
  clear hVA hHA HS
  have z := HCV.out wA (HB5.out.trans (HBA.out.mono HB5.out.size))
  obtain ⟨z0, z1, z2, z3, z4, z5⟩ := z
  have HTA := HT.out wA HBA.out
  simp only [VD.kind] at z0 HTA
  go_wp2_with fail
  refine HTA.mono ?_
  rintro en wB ⟨rfl, hb⟩
  have HSA := HSm.out wA wB _ _ _ HBA.out hb HPA.out HNs.out
  have HBB := step_below HBA hb
  clear hb HTA
  go_wp2_with fail
  refine HSA.mono ?_
  rintro en wC ⟨rfl, hb⟩
  have HBC := step_below HBB hb
  have HBw := step_below HB1 (step_below HB4 (step_below HB5 HBC.out).out).out
  clear hb HSA
  go_wp2_with fail
  refine (known_v _).mono ?_
  rintro en wD ⟨rfl, hb⟩
  have HBD := step_below HBw hb
  go_wp2
  go_ret
  exact ⟨rfl, HBD.out⟩
 | set es0 =>
  simp only [VD.kind] at q0
  obtain ⟨m2, x2, E2, T2, k2, hH⟩ := HP9.out.set
  have u2 := k2.cs
  have hv5 := HP9.out.low
  have HKn : Hid (X ∉ es0) := fun hm => by
   have h1 := HF.out.1.2 X hm
   have h2 := HX.out.1
   omega
  have HS := Zs.AddS _ m2 x2 E2 T2 es0 one F2 X w9 hH (by omega) (by have := HF.out.1.1; omega)
  rw [Zs.addM_no HKn.out] at HS
  have HVB : Hid (VB w9 v2 3 ⟨#[]⟩ (.pointer none) (ptr m2) (.pointer none)) := k2
  have HH : Hid (Zs.Ss w9 w5.heap.size m2 x2 E2 T2 es0 one F2) := hH
  have HNs : Hid (¬ sameD (.set es0) (.set (es0 ++ [X]))) := fun h => by
   have := List.Perm.length_eq h
   rw [List.length_append, List.length_singleton] at this
   omega
  clear k2 hH
  go_wp2_with fail
  refine HS.mono ?_
  rintro en wA ⟨rfl, hto⟩
  have HBA : Hid (Below w5.heap.size w5 wA) := HB9.out.trans (hto.below HH.out)
  have hVA := HVB.out.sto HH.out hto
  obtain ⟨FA, hHA, -, -⟩ := hto
  have HPA : Hid (PV wA w5.heap.size v2 (.set (es0 ++ [X])) _ FA) := PV.of_set hVA hHA hv5
  clear hVA hHA HS
  have z := HCV.out wA (HB5.out.trans (HBA.out.mono HB5.out.size))
  obtain ⟨z0, z1, z2, z3, z4, z5⟩ := z
  have HTA := HT.out wA HBA.out
  simp only [VD.kind] at z0 HTA
  go_wp2_with fail
  refine HTA.mono ?_
  rintro en wB ⟨rfl, hb⟩
  have HSA := HSm.out wA wB _ _ _ HBA.out hb HPA.out HNs.out
  have HBB := step_below HBA hb
  clear hb HTA
  go_wp2_with fail
  refine HSA.mono ?_
  rintro en wC ⟨rfl, hb⟩
  have HBC := step_below HBB hb
  have HBw := step_below HB1 (step_below HB4 (step_below HB5 HBC.out).out).out
  clear hb HSA
  go_wp2_with fail
  refine (known_v _).mono ?_
  rintro en wD ⟨rfl, hb⟩
  have HBD := step_below HBw hb
  go_wp2
  go_ret
  exact ⟨rfl, HBD.out⟩
 | lst es0 =>
  simp only [VD.kind] at q0
  obtain ⟨m2, mo2, qq2, k2, hH, -⟩ := HP9.out.list
  have u2 := k2.cl
  have hv5 := HP9.out.low
  obtain ⟨wQ, hwQ⟩ : ∃ wQ, w9.alloc (.cells #[.string X] 9) = wQ := ⟨_, rfl⟩
  have hbQ : Below w9.heap.size w9 wQ := by rw [← hwQ]; exact alloc_below w9 _
  have hOQ : OwnS wQ w9.heap.size (some ⟨w9.heap.size, 0, none⟩) 1 1 [X] := by rw [← hwQ]; exact OwnS.made w9 [X] _ 1 rfl (Nat.le_refl _) (by decide) _ rfl
  have hHQ := hH.keep hbQ
  have HS := VRight wQ _ m2 mo2 qq2 es0 F2 hHQ _ 1 1 [X] (hHQ.far hOQ) (fun s hs => by rw [List.mem_singleton.1 hs]; omega) (by have := HF.out.1.1; omega)
  have HVB : Hid (VB wQ v2 4 ⟨#[]⟩ (.pointer none) (.pointer none) (ptr m2)) := k2.keep hbQ
  have HH : Hid (QV wQ w5.heap.size m2 mo2 es0 qq2 F2) := hHQ
  have HBQ := step_below HB9 hbQ
  have HNs : Hid (¬ sameD (.lst es0) (.lst (es0 ++ [X]))) := fun h => by
   have := congrArg List.length (show es0 = es0 ++ [X] from h)
   rw [List.length_append, List.length_singleton] at this
   omega
  clear k2 hH hOQ hHQ hbQ
  go_wp2_with fail
  refine HS.mono ?_
  rintro en wA ⟨rfl, hto⟩
  have HBA : Hid (Below w5.heap.size w5 wA) := HBQ.out.trans (VDoes.below HH.out hto)
  have hVA := HVB.out.qto HH.out hto
  obtain ⟨qA, FA, hHA, -⟩ := hto
  have HPA : Hid (PV wA w5.heap.size v2 (.lst (es0 ++ [X])) _ FA) := PV.of_list hVA hHA hv5
  clear hVA hHA HS
  have z := HCV.out wA (HB5.out.trans (HBA.out.mono HB5.out.size))
  obtain ⟨z0, z1, z2, z3, z4, z5⟩ := z
  have HTA := HT.out wA HBA.out
  simp only [VD.kind] at z0 HTA
  go_wp2_with fail
  refine HTA.mono ?_
  rintro en wB ⟨rfl, hb⟩
  have HSA := HSm.out wA wB _ _ _ HBA.out hb HPA.out HNs.out
  have HBB := step_below HBA hb
  clear hb HTA
  go_wp2_with fail
  refine HSA.mono ?_
  rintro en wC ⟨rfl, hb⟩
  have HBC := step_below HBB hb
  have HBw := step_below HB1 (step_below HB4 (step_below HB5 HBC.out).out).out
  clear hb HSA
  go_wp2_with fail
  refine (known_v _).mono ?_
  rintro en wD ⟨rfl, hb⟩
  have HBD := step_below HBw hb
  go_wp2
  go_ret
  exact ⟨rfl, HBD.out⟩
end Go.Proofs.YtikimcbalkhooaaGreat

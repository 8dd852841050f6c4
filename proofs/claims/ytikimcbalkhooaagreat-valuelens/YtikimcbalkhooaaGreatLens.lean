/-
 ValueLens.
-/
import Derived.Test.YtikimcbalkhooaaGreatG20
namespace Go.Proofs.YtikimcbalkhooaaGreat
open Go.RowKit Go.PlainAid
open Dk (En keysOf hasK putE)

theorem kn_end (w : World) (v B : Nat) (d : VD) (one : Bool) (F : List Nat) (h : PV w B v d one F) (h1 : d.len = 1) (ht : ByteArray) (he : typ d.kind = ht) :
  (Calls Tryz.prog 21 #[ptr v] w fun e w' => e = .returned (.bool false) ∧ Below w.heap.size w w') ∧ (∀ wx, Below w.heap.size w wx → Calls Tryz.prog 22 #[ptr v] wx fun e w' => e = .returned (.int .i64 1) ∧ Below wx.heap.size wx w') ∧ (∀ wx, Below w.heap.size w wx → Calls Tryz.prog 23 #[ptr v] wx fun e w' => e = .returned (.string ht) ∧ w' = wx) ∧ (∀ wx, Below w.heap.size w wx → Calls Tryz.prog 26 #[ptr v, .int .i64 (d.kind : Nat)] wx fun e w' => e = .returned .nilIface ∧ w' = wx) := by
 refine ⟨?_, fun wx hb => ?_, fun wx hb => ?_, fun wx hb => Is_same wx B v d one F (h.keep hb)⟩
 ·have := EmptyV w B v d one F h
  rw [show d.emp = false by unfold VD.emp; rw [h1]; simp] at this
  exact this
 ·have := LenV wx B v d one F (h.keep hb)
  rw [h1] at this
  exact this
 ·have := TypeV wx B v d one F (h.keep hb)
  rw [he] at this
  exact this

set_option maxRecDepth 100000 in
set_option maxHeartbeats 4000000 in
theorem lens_h (kind : Int) (x : Nat) (s : ByteArray) (w : World) (hx : x < 18446744073709551616) (hk : wi kind 2 = 0) :
  Calls Tryz.prog 6 #[.int .i64 kind, .int .u64 x, .string s] w fun e w' => e = .returned (.bool true) ∧ Below w.heap.size w w' := by
 have HW := Within_wi kind 2 w (by decide)
 rw [hk] at HW
 replace HW : Calls Tryz.prog 19 #[.int .i64 kind, .int .i64 0, .int .i64 2] w fun e w' => e = .returned (.int .i64 0) ∧ w' = w := HW
 have HN := New_h x 2 4 w hx
 have HC := fun w => Cut_any s 30 w (by decide)
 have hk9 : (cutB s 30).size ≤ 30 := by have := size_cutB s 30 (by decide); omega
 generalize cutB s 30 = u at HC hk9
 clear hk
 go_enter Tryz.func6, Tryz.ntmps6
 go_wp2_with fail
 refine HW.mono ?_
 rintro e w ⟨rfl, rfl⟩
 clear HW
 go_wp2_with fail
 refine HN.mono ?_
 rintro en w1 ⟨hb, v, F, rfl, hV⟩
 have HB1 : Hid (Below w.heap.size w w1) := hb
 have HV : Hid (PV w1 w.heap.size v (.hsh []) true F) := hV
 have HE := EmptyV w1 _ v _ true F hV
 replace HE : Calls Tryz.prog 21 #[ptr v] w1 fun e w' => e = .returned (.bool true) ∧ Below w1.heap.size w1 w' := HE
 clear hb hV HN
 go_wp2_with fail
 refine HE.mono ?_
 rintro en w2 ⟨rfl, hb⟩
 have HB2 := step_below HB1 hb
 have HV2 : Hid (PV w2 w.heap.size v (.hsh []) true F) := HV.out.keep hb
 have HL := LenV w2 _ v _ true F HV2.out
 replace HL : Calls Tryz.prog 22 #[ptr v] w2 fun e w' => e = .returned (.int .i64 0) ∧ Below w2.heap.size w2 w' := HL
 clear hb HE HV
 go_wp2_with fail
 refine HL.mono ?_
 rintro en w3 ⟨rfl, hb⟩
 have HB3 := step_below HB2 hb
 have HV3 : Hid (PV w3 w.heap.size v (.hsh []) true F) := HV2.out.keep hb
 have HT := TypeV w3 _ v _ true F HV3.out
 replace HT : Calls Tryz.prog 23 #[ptr v] w3 fun e w' => e = .returned (.string ⟨#[104, 97, 115, 104]⟩) ∧ w' = w3 := HT
 clear hb HL HV2
 go_wp2_with fail
 refine HT.mono ?_
 rintro en w3 ⟨rfl, rfl⟩
 clear HT
 go_wp2_with fail
 refine (HC _).mono ?_
 rintro e w3 ⟨rfl, rfl⟩
 obtain ⟨m, x1, E, T, hVB, hH⟩ := HV3.out.hash
 have hvl := HV3.out.low
 have k2 := hVB.ch
 have HVB : Hid (VB w3 v 2 ⟨#[]⟩ (ptr m) (.pointer none) (.pointer none)) := hVB
 have HH : Hid (Hm w3 w.heap.size m x1 E T [] true F) := hH
 have HS := SetH w.heap.size m x1 E T [] true F u u w3 hH (by omega) (by omega) (by decide)
 clear hVB hH HC
 go_wp2_with fail
 refine HS.mono ?_
 rintro en w4 ⟨rfl, hto⟩
 have HB4 : Hid (Below w.heap.size w w4) := HB3.out.trans (hto.below HH.out)
 have hVB4 := HVB.out.hto HH.out hto
 obtain ⟨F4, hH4, -, -⟩ := hto
 have hP4 : PV w4 w.heap.size v (.hsh [(u, u)]) _ F4 := PV.of_hash hVB4 hH4 hvl
 obtain ⟨r1, r2, r3, r4⟩ := kn_end w4 v _ _ _ _ hP4 rfl ⟨#[104, 97, 115, 104]⟩ rfl
 replace r4 : ∀ wx, Below w4.heap.size w4 wx → Calls Tryz.prog 26 #[ptr v, .int .i64 2] wx fun e w' => e = .returned .nilIface ∧ w' = wx := r4
 have HR2 : Hid _ := r2
 have HR3 : Hid _ := r3
 have HR4 : Hid _ := r4
 clear hVB4 hH4 hP4 HS r2 r3 r4
 have e0 : hasK ([] : List En) u = false := rfl
 rw [e0]
 go_wp2_with fail
 refine r1.mono ?_
 rintro en w5 ⟨rfl, hb⟩
 have HD5 : Hid (Below w4.heap.size w4 w5) := hb
 have q2 := HR2.out w5 hb
 clear hb r1
 go_wp2_with fail
 refine q2.mono ?_
 rintro en w6 ⟨rfl, hb⟩
 have HD6 := step_below HD5 hb
 have q3 := HR3.out w6 HD6.out
 have q4 := HR4.out w6 HD6.out
 clear hb q2
 go_wp2_with fail
 refine q3.mono ?_
 rintro en w6 ⟨rfl, rfl⟩
 go_wp2_with fail
 refine (rType_any _ 2 (by decide) (by decide)).mono ?_
 rintro en w6 ⟨rfl, rfl⟩
 simp only [typ, Nat.reduceEqDiff, if_true, if_false]
 go_wp2_with fail
 refine q4.mono ?_
 rintro en w6 ⟨rfl, rfl⟩
 have HB6 := step_below HB4 HD6.out
 clear q3 q4 HD6 HD5
 go_wp2_with fail
 refine (known_v _).mono ?_
 rintro en w7 ⟨rfl, hb⟩
 have HB7 := step_below HB6 hb
 go_wp2
 go_ret
 exact ⟨rfl, HB7.out⟩
set_option maxRecDepth 100000 in
set_option maxHeartbeats 4000000 in
theorem lens_s (kind : Int) (x : Nat) (s : ByteArray) (w : World) (hx : x < 18446744073709551616) (hk : wi kind 2 = 1) :
  Calls Tryz.prog 6 #[.int .i64 kind, .int .u64 x, .string s] w fun e w' => e = .returned (.bool true) ∧ Below w.heap.size w w' := by
 have HW := Within_wi kind 2 w (by decide)
 rw [hk] at HW
 replace HW : Calls Tryz.prog 19 #[.int .i64 kind, .int .i64 0, .int .i64 2] w fun e w' => e = .returned (.int .i64 1) ∧ w' = w := HW
 have HN := New_s x 2 4 w hx
 have HC := fun w => Cut_any s 30 w (by decide)
 have hk9 : (cutB s 30).size ≤ 30 := by have := size_cutB s 30 (by decide); omega
 generalize cutB s 30 = u at HC hk9
 clear hk
 go_enter Tryz.func6, Tryz.ntmps6
 go_wp2_with fail
 refine HW.mono ?_
 rintro e w ⟨rfl, rfl⟩
 clear HW
 go_wp2_with fail
 refine HN.mono ?_
 rintro en w1 ⟨hb, v, F, rfl, hV⟩
 have HB1 : Hid (Below w.heap.size w w1) := hb
 have HV : Hid (PV w1 w.heap.size v (.set []) true F) := hV
 have HE := EmptyV w1 _ v _ true F hV
 replace HE : Calls Tryz.prog 21 #[ptr v] w1 fun e w' => e = .returned (.bool true) ∧ Below w1.heap.size w1 w' := HE
 clear hb hV HN
 go_wp2_with fail
 refine HE.mono ?_
 rintro en w2 ⟨rfl, hb⟩
 have HB2 := step_below HB1 hb
 have HV2 : Hid (PV w2 w.heap.size v (.set []) true F) := HV.out.keep hb
 have HL := LenV w2 _ v _ true F HV2.out
 replace HL : Calls Tryz.prog 22 #[ptr v] w2 fun e w' => e = .returned (.int .i64 0) ∧ Below w2.heap.size w2 w' := HL
 clear hb HE HV
 go_wp2_with fail
 refine HL.mono ?_
 rintro en w3 ⟨rfl, hb⟩
 have HB3 := step_below HB2 hb
 have HV3 : Hid (PV w3 w.heap.size v (.set []) true F) := HV2.out.keep hb
 have HT := TypeV w3 _ v _ true F HV3.out
 replace HT : Calls Tryz.prog 23 #[ptr v] w3 fun e w' => e = .returned (.string ⟨#[115, 101, 116]⟩) ∧ w' = w3 := HT
 clear hb HL HV2
 go_wp2_with fail
 refine HT.mono ?_
 rintro en w3 ⟨rfl, rfl⟩
 clear HT
 go_wp2_with fail
 refine (HC _).mono ?_
 rintro e w3 ⟨rfl, rfl⟩
 obtain ⟨m, x1, E, T, hVB, hH⟩ := HV3.out.set
 have hvl := HV3.out.low
 have k2 := hVB.ch
 have k3 := hVB.cs
 have HVB : Hid (VB w3 v 3 ⟨#[]⟩ (.pointer none) (ptr m) (.pointer none)) := hVB
 have HH : Hid (Zs.Ss w3 w.heap.size m x1 E T [] true F) := hH
 have HS := Zs.AddS w.heap.size m x1 E T [] true F u w3 hH (by omega) (by decide)
 clear hVB hH HC
 go_wp2_with fail
 refine HS.mono ?_
 rintro en w4 ⟨rfl, hto⟩
 have HB4 : Hid (Below w.heap.size w w4) := HB3.out.trans (hto.below HH.out)
 have hVB4 := HVB.out.sto HH.out hto
 obtain ⟨F4, hH4, -, -⟩ := hto
 have hP4 : PV w4 w.heap.size v (.set [u]) _ F4 := PV.of_set hVB4 hH4 hvl
 obtain ⟨r1, r2, r3, r4⟩ := kn_end w4 v _ _ _ _ hP4 rfl ⟨#[115, 101, 116]⟩ rfl
 replace r4 : ∀ wx, Below w4.heap.size w4 wx → Calls Tryz.prog 26 #[ptr v, .int .i64 3] wx fun e w' => e = .returned .nilIface ∧ w' = wx := r4
 have HR2 : Hid _ := r2
 have HR3 : Hid _ := r3
 have HR4 : Hid _ := r4
 clear hVB4 hH4 hP4 HS r2 r3 r4
 have e0 : Zs.hasM [] u = false := rfl
 rw [e0]
 go_wp2_with fail
 refine r1.mono ?_
 rintro en w5 ⟨rfl, hb⟩
 have HD5 : Hid (Below w4.heap.size w4 w5) := hb
 have q2 := HR2.out w5 hb
 clear hb r1
 go_wp2_with fail
 refine q2.mono ?_
 rintro en w6 ⟨rfl, hb⟩
 have HD6 := step_below HD5 hb
 have q3 := HR3.out w6 HD6.out
 have q4 := HR4.out w6 HD6.out
 clear hb q2
 go_wp2_with fail
 refine q3.mono ?_
 rintro en w6 ⟨rfl, rfl⟩
 go_wp2_with fail
 refine (rType_any _ 3 (by decide) (by decide)).mono ?_
 rintro en w6 ⟨rfl, rfl⟩
 simp only [typ, Nat.reduceEqDiff, if_true, if_false]
 go_wp2_with fail
 refine q4.mono ?_
 rintro en w6 ⟨rfl, rfl⟩
 have HB6 := step_below HB4 HD6.out
 clear q3 q4 HD6 HD5
 go_wp2_with fail
 refine (known_v _).mono ?_
 rintro en w7 ⟨rfl, hb⟩
 have HB7 := step_below HB6 hb
 go_wp2
 go_ret
 exact ⟨rfl, HB7.out⟩
set_option maxRecDepth 100000 in
set_option maxHeartbeats 4000000 in
theorem lens_l (kind : Int) (x : Nat) (s : ByteArray) (w : World) (hk : wi kind 2 = 2) :
  Calls Tryz.prog 6 #[.int .i64 kind, .int .u64 x, .string s] w fun e w' => e = .returned (.bool true) ∧ Below w.heap.size w w' := by
 have HW := Within_wi kind 2 w (by decide)
 rw [hk] at HW
 replace HW : Calls Tryz.prog 19 #[.int .i64 kind, .int .i64 0, .int .i64 2] w fun e w' => e = .returned (.int .i64 2) ∧ w' = w := HW
 have HN := New_l x 2 4 w
 have HC := fun w => Cut_any s 30 w (by decide)
 have hk9 : (cutB s 30).size ≤ 30 := by have := size_cutB s 30 (by decide); omega
 generalize cutB s 30 = u at HC hk9
 clear hk
 go_enter Tryz.func6, Tryz.ntmps6
 go_wp2_with fail
 refine HW.mono ?_
 rintro e w ⟨rfl, rfl⟩
 clear HW
 go_wp2_with fail
 refine HN.mono ?_
 rintro en w1 ⟨hb, v, F, rfl, hV⟩
 have HB1 : Hid (Below w.heap.size w w1) := hb
 have HV : Hid (PV w1 w.heap.size v (.lst []) true F) := hV
 have HE := EmptyV w1 _ v _ true F hV
 replace HE : Calls Tryz.prog 21 #[ptr v] w1 fun e w' => e = .returned (.bool true) ∧ Below w1.heap.size w1 w' := HE
 clear hb hV HN
 go_wp2_with fail
 refine HE.mono ?_
 rintro en w2 ⟨rfl, hb⟩
 have HB2 := step_below HB1 hb
 have HV2 : Hid (PV w2 w.heap.size v (.lst []) true F) := HV.out.keep hb
 have HL := LenV w2 _ v _ true F HV2.out
 replace HL : Calls Tryz.prog 22 #[ptr v] w2 fun e w' => e = .returned (.int .i64 0) ∧ Below w2.heap.size w2 w' := HL
 clear hb HE HV
 go_wp2_with fail
 refine HL.mono ?_
 rintro en w3 ⟨rfl, hb⟩
 have HB3 := step_below HB2 hb
 have HV3 : Hid (PV w3 w.heap.size v (.lst []) true F) := HV2.out.keep hb
 have HT := TypeV w3 _ v _ true F HV3.out
 replace HT : Calls Tryz.prog 23 #[ptr v] w3 fun e w' => e = .returned (.string ⟨#[108, 105, 115, 116]⟩) ∧ w' = w3 := HT
 clear hb HL HV2
 go_wp2_with fail
 refine HT.mono ?_
 rintro en w3 ⟨rfl, rfl⟩
 clear HT
 go_wp2_with fail
 refine (HC _).mono ?_
 rintro e w3 ⟨rfl, rfl⟩
 obtain ⟨m, most, q, hVB, hH, hone⟩ := HV3.out.list
 clear hone
 have hvl := HV3.out.low
 have k2 := hVB.ch
 have k3 := hVB.cs
 have k4 := hVB.cl
 have HVB : Hid (VB w3 v 4 ⟨#[]⟩ (.pointer none) (.pointer none) (ptr m)) := hVB
 have HH : Hid (QV w3 w.heap.size m most [] q F) := hH
 obtain ⟨w8, hw8⟩ : ∃ w8, w3.alloc (.cells #[.string u] 9) = w8 := ⟨_, rfl⟩
 have hb8 : Below w3.heap.size w3 w8 := by rw [← hw8]; exact alloc_below w3 _
 have hO8 : OwnS w8 w3.heap.size (some ⟨w3.heap.size, 0, none⟩) 1 1 [u] := by rw [← hw8]; exact OwnS.made w3 [u] _ 1 rfl (Nat.le_refl _) (by decide) _ rfl
 have hQ8 := hH.keep hb8
 have HS := VLeft w8 w.heap.size m most q [] F hQ8 _ 1 1 [u] (hQ8.far hO8) (fun s hs => by rw [List.mem_singleton.1 hs]; omega) (by decide)
 have HQ8 : Hid (QV w8 w.heap.size m most [] q F) := hQ8
 have HVB8 : Hid (VB w8 v 4 ⟨#[]⟩ (.pointer none) (.pointer none) (ptr m)) := hVB.keep hb8
 have HB8 := step_below HB3 hb8
 clear hO8 hQ8 hb8
 clear hVB hH HC
 go_wp2_with fail
 refine HS.mono ?_
 rintro en w4 ⟨rfl, hto⟩
 have HB4 : Hid (Below w.heap.size w w4) := HB8.out.trans (VDoes.below HQ8.out hto)
 have hVB4 := HVB8.out.qto HQ8.out hto
 obtain ⟨q4, F4, hH4, -⟩ := hto
 have hP4 : PV w4 w.heap.size v (.lst [u]) _ F4 := PV.of_list hVB4 hH4 hvl
 obtain ⟨r1, r2, r3, r4⟩ := kn_end w4 v _ _ _ _ hP4 rfl ⟨#[108, 105, 115, 116]⟩ rfl
 replace r4 : ∀ wx, Below w4.heap.size w4 wx → Calls Tryz.prog 26 #[ptr v, .int .i64 4] wx fun e w' => e = .returned .nilIface ∧ w' = wx := r4
 have HR2 : Hid _ := r2
 have HR3 : Hid _ := r3
 have HR4 : Hid _ := r4
 clear hVB4 hH4 hP4 HS r2 r3 r4
 go_wp2_with fail
 refine r1.mono ?_
 rintro en w5 ⟨rfl, hb⟩
 have HD5 : Hid (Below w4.heap.size w4 w5) := hb
 have q2 := HR2.out w5 hb
 clear hb r1
 go_wp2_with fail
 refine q2.mono ?_
 rintro en w6 ⟨rfl, hb⟩
 have HD6 := step_below HD5 hb
 have q3 := HR3.out w6 HD6.out
 have q4 := HR4.out w6 HD6.out
 clear hb q2
 go_wp2_with fail
 refine q3.mono ?_
 rintro en w6 ⟨rfl, rfl⟩
 go_wp2_with fail
 refine (rType_any _ 4 (by decide) (by decide)).mono ?_
 rintro en w6 ⟨rfl, rfl⟩
 simp only [typ, Nat.reduceEqDiff, if_false]
 go_wp2_with fail
 refine q4.mono ?_
 rintro en w6 ⟨rfl, rfl⟩
 have HB6 := step_below HB4 HD6.out
 clear q3 q4 HD6 HD5
 go_wp2_with fail
 refine (known_v _).mono ?_
 rintro en w7 ⟨rfl, hb⟩
 have HB7 := step_below HB6 hb
 go_wp2
 go_ret
 exact ⟨rfl, HB7.out⟩

theorem lens_any (kind : Int) (x : Nat) (s : ByteArray) (w : World) (hx : x < 18446744073709551616) :
  Calls Tryz.prog 6 #[.int .i64 kind, .int .u64 x, .string s] w fun e w' => e = .returned (.bool true) ∧ Below w.heap.size w w' := by
 have h1 := wi_le kind 2
 have h2 : wi kind 2 = 0 ∨ wi kind 2 = 1 ∨ wi kind 2 = 2 := by omega
 rcases h2 with h | h | h
 ·exact lens_h kind x s w hx h
 ·exact lens_s kind x s w hx h
 ·exact lens_l kind x s w h
end Go.Proofs.YtikimcbalkhooaaGreat

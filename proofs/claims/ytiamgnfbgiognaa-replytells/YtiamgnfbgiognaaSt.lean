/-
  ReplyTells.
-/
import Derived.Test.YtiamgnfbgiognaaUe
import Derived.Test.YtiamgnfbgiognaaFd
import Derived.Test.YtiamgnfbgiognaaRg
namespace Go.Proofs.Ytiamgnfbgiognaa
open Go.RowKit Go.PlainAid

theorem same_self (t : RT) : sameT t t = true := by unfold sameT; rw [cmpT_self]; rfl
theorem same_srs {t u : RT} (h : can u = srt t) : sameT (srt t) u = true := by unfold sameT; rw [can_srt, h, cmpT_self]; rfl
set_option maxRecDepth 100000 in
set_option maxHeartbeats 4000000 in
theorem tells_any (a : Option Addr) (n c : Nat) (a' : Option Addr) (n' c' : Nat) (w : World) (hN : NdR w a n) (hN' : NdR w a' n') : Calls Try.prog 3 #[.slice a n c, .slice a' n' c'] w fun r w' => r = .returned (.bool true) ∧ Below w.heap.size w w' := by
  have HM := made_all 6 a n c 0 0 w (by omega) hN (Nat.zero_le _)
  have HK := known_any
  have HN' : Hid _ := hN'
  clear hN hN'
  go_enter Try.func3, Try.ntmps3
  go_wp2_with fail
  refine HM.mono ?_
  rintro e w1 ⟨hb, X, tX, at3, rfl, hat3, -, -, hvX⟩
  have HB1 : Hid _ := hb
  have HM2 := made_all 6 a' n' c' 0 0
  obtain ⟨k, s, x, xa, m, xc⟩ := X
  have HX1 : Hid (VL w1 6 ⟨k, s, x, xa, m, xc⟩ tX) := hvX.lo
  simp only [El.v]
  clear hb hvX HM
  obtain ⟨w2, hw2⟩ : ∃ w2, w1.alloc (.cells #[.int .i64 k, .string s, .int .i64 x, .slice xa m xc] 25) = w2 := ⟨_, rfl⟩
  have hb2 : Below w1.heap.size w1 w2 := by rw [← hw2]; exact alloc_below w1 _
  have HA2 : Hid (BR w2 w1.heap.size k s x xa m xc) := by rw [← hw2]; exact BR.new w1 _ _ _ _ _ _
  have HX2 : Hid (VL w2 6 ⟨k, s, x, xa, m, xc⟩ tX) := (HX1.out.kp hb2).lo
  have HB2 := step_below HB1 hb2
  have HMm := HM2 w2 (by omega) (HN'.out.keep HB2.out) (Nat.zero_le _)
  clear hb2 HM2
  go_wp2_with fail
  refine HMm.mono ?_
  rintro e w3 ⟨hb, Y, tY, at4, rfl, hat4, -, -, hvY⟩
  obtain ⟨yk, ys, yn, ya, ym, yc⟩ := Y
  have HB3 := step_below HB2 hb
  have HA3 : Hid _ := HA2.out.keep hb
  have HX3 : Hid (VL w3 6 ⟨k, s, x, xa, m, xc⟩ tX) := (HX2.out.kp hb).lo
  have HY3 : Hid (VL w3 6 ⟨yk, ys, yn, ya, ym, yc⟩ tY) := hvY.lo
  simp only [El.v]
  clear hb hvY HMm hw2
  obtain ⟨w4, hw4⟩ : ∃ w4, w3.alloc (.cells #[.int .i64 yk, .string ys, .int .i64 yn, .slice ya ym yc] 25) = w4 := ⟨_, rfl⟩
  have hb4 : Below w3.heap.size w3 w4 := by rw [← hw4]; exact alloc_below w3 _
  have HC4 : Hid (BR w4 w3.heap.size yk ys yn ya ym yc) := by rw [← hw4]; exact BR.new w3 _ _ _ _ _ _
  have HA4 : Hid _ := HA3.out.keep hb4
  have HX4 : Hid (VL w4 6 ⟨k, s, x, xa, m, xc⟩ tX) := (HX3.out.kp hb4).lo
  have HY4 : Hid (VL w4 6 ⟨yk, ys, yn, ya, ym, yc⟩ tY) := (HY3.out.kp hb4).lo
  have HB4 := step_below HB3 hb4
  have q0 := HA4.out.c0
  have q1 := HA4.out.c1
  have q2 := HA4.out.c2
  have q3 := HA4.out.c3
  have HSr := Sorted_all 6 _ _ w4 HX4.out
  simp only [El.v] at HSr
  clear hb4
  go_wp2_with fail
  refine HSr.mono ?_
  rintro e w5 ⟨hb, S, rfl, hvS⟩
  obtain ⟨sk, ss, sn, sa, sm, sc⟩ := S
  have HB5 := step_below HB4 hb
  have HA5 : Hid _ := HA4.out.keep hb
  have HC5 : Hid _ := HC4.out.keep hb
  have HX5 : Hid (VL w5 6 ⟨k, s, x, xa, m, xc⟩ tX) := (HX4.out.kp hb).lo
  have HY5 : Hid (VL w5 6 ⟨yk, ys, yn, ya, ym, yc⟩ tY) := (HY4.out.kp hb).lo
  have HS5 : Hid (VL w5 6 ⟨sk, ss, sn, sa, sm, sc⟩ (srt tX)) := hvS.lo
  simp only [El.v]
  clear hb hvS HSr q0 q1 q2 q3 hw4
  obtain ⟨w6, hw6⟩ : ∃ w6, w5.alloc (.cells #[.int .i64 sk, .string ss, .int .i64 sn, .slice sa sm sc] 25) = w6 := ⟨_, rfl⟩
  have hb6 : Below w5.heap.size w5 w6 := by rw [← hw6]; exact alloc_below w5 _
  have HD6 : Hid (BR w6 w5.heap.size sk ss sn sa sm sc) := by rw [← hw6]; exact BR.new w5 _ _ _ _ _ _
  have HA6 : Hid _ := HA5.out.keep hb6
  have HC6 : Hid _ := HC5.out.keep hb6
  have HX6 : Hid (VL w6 6 ⟨k, s, x, xa, m, xc⟩ tX) := (HX5.out.kp hb6).lo
  have HY6 : Hid (VL w6 6 ⟨yk, ys, yn, ya, ym, yc⟩ tY) := (HY5.out.kp hb6).lo
  have HS6 : Hid (VL w6 6 ⟨sk, ss, sn, sa, sm, sc⟩ (srt tX)) := (HS5.out.kp hb6).lo
  have HB6 := step_below HB5 hb6
  have HAll : Hid (∀ wx, Below w6.heap.size w6 wx → wx.cell? ⟨w1.heap.size, 0, none⟩ = some (.int .i64 k) ∧ wx.cell? ⟨w1.heap.size, 1, none⟩ = some (.string s) ∧ wx.cell? ⟨w1.heap.size, 2, none⟩ = some (.int .i64 x) ∧ wx.cell? ⟨w1.heap.size, 3, none⟩ = some (.slice xa m xc) ∧ wx.cell? ⟨w3.heap.size, 0, none⟩ = some (.int .i64 yk) ∧ wx.cell? ⟨w3.heap.size, 1, none⟩ = some (.string ys) ∧ wx.cell? ⟨w3.heap.size, 2, none⟩ = some (.int .i64 yn) ∧ wx.cell? ⟨w3.heap.size, 3, none⟩ = some (.slice ya ym yc) ∧ wx.cell? ⟨w5.heap.size, 0, none⟩ = some (.int .i64 sk) ∧ wx.cell? ⟨w5.heap.size, 1, none⟩ = some (.string ss) ∧ wx.cell? ⟨w5.heap.size, 2, none⟩ = some (.int .i64 sn) ∧ wx.cell? ⟨w5.heap.size, 3, none⟩ = some (.slice sa sm sc)) := fun wx hx => by
    have h1 := HA6.out.keep hx
    have h2 := HC6.out.keep hx
    have h3 := HD6.out.keep hx
    exact ⟨h1.c0, h1.c1, h1.c2, h1.c3, h2.c0, h2.c1, h2.c2, h2.c3, h3.c0, h3.c1, h3.c2, h3.c3⟩
  clear hb6
  have H1 : Hid (∀ wx, Below w6.heap.size w6 wx → Calls Try.prog 8 #[.agg #[.int .i64 k, .string s, .int .i64 x, .slice xa m xc], .agg #[.int .i64 yk, .string ys, .int .i64 yn, .slice ya ym yc]] wx fun r w' => Below wx.heap.size wx w' ∧ r = .returned (.bool (sameT tX tY))) := fun wx hx => Same_all 6 ⟨k, s, x, xa, m, xc⟩ ⟨yk, ys, yn, ya, ym, yc⟩ _ _ wx (HX6.out.kp hx).lo (HY6.out.kp hx).lo
  have H2 : Hid (∀ wx, Below w6.heap.size w6 wx → Calls Try.prog 9 #[.agg #[.int .i64 k, .string s, .int .i64 x, .slice xa m xc], .agg #[.int .i64 yk, .string ys, .int .i64 yn, .slice ya ym yc]] wx fun r w' => Below wx.heap.size wx w' ∧ r = .returned (.bool (sameT tX tY))) := fun wx hx => rSame_any 6 ⟨k, s, x, xa, m, xc⟩ ⟨yk, ys, yn, ya, ym, yc⟩ _ _ wx (HX6.out.kp hx).lo (HY6.out.kp hx).lo
  have H3 : Hid (∀ wx, Below w6.heap.size w6 wx → Calls Try.prog 10 #[.agg #[.int .i64 k, .string s, .int .i64 x, .slice xa m xc], .agg #[.int .i64 yk, .string ys, .int .i64 yn, .slice ya ym yc]] wx fun r w' => Below wx.heap.size wx w' ∧ r = .returned (.bool (alikeT tX tY))) := fun wx hx => Alike_any 6 ⟨k, s, x, xa, m, xc⟩ ⟨yk, ys, yn, ya, ym, yc⟩ _ _ wx (HX6.out.kp hx).lo (HY6.out.kp hx).lo
  have H4 : Hid (∀ wx, Below w6.heap.size w6 wx → Calls Try.prog 11 #[.agg #[.int .i64 k, .string s, .int .i64 x, .slice xa m xc], .agg #[.int .i64 yk, .string ys, .int .i64 yn, .slice ya ym yc]] wx fun r w' => Below wx.heap.size wx w' ∧ r = .returned (.bool (alikeT tX tY))) := fun wx hx => rAlike_any 6 ⟨k, s, x, xa, m, xc⟩ ⟨yk, ys, yn, ya, ym, yc⟩ _ _ wx (HX6.out.kp hx).lo (HY6.out.kp hx).lo
  have H5 : Hid (∀ wx, Below w6.heap.size w6 wx → Calls Try.prog 8 #[.agg #[.int .i64 k, .string s, .int .i64 x, .slice xa m xc], .agg #[.int .i64 k, .string s, .int .i64 x, .slice xa m xc]] wx fun r w' => Below wx.heap.size wx w' ∧ r = .returned (.bool true)) := fun wx hx => by
    have h := Same_all 6 ⟨k, s, x, xa, m, xc⟩ ⟨k, s, x, xa, m, xc⟩ _ _ wx (HX6.out.kp hx).lo (HX6.out.kp hx).lo
    rw [same_self] at h
    exact h
  have H6 : Hid (∀ wx, Below w6.heap.size w6 wx → Calls Try.prog 12 #[.agg #[.int .i64 k, .string s, .int .i64 x, .slice xa m xc]] wx (RetS wx (fun g => g < w6.heap.size) 6 tX)) := fun wx hx => rSorted_all 6 _ ⟨k, s, x, xa, m, xc⟩ _ wx (Vl.kp HX6.out hx)
  have H7 : Hid (∀ (z : El) (u : RT) wx, Below w6.heap.size w6 wx → VL wx 6 z u → can u = srt tX → Calls Try.prog 9 #[.agg #[.int .i64 sk, .string ss, .int .i64 sn, .slice sa sm sc], z.v] wx fun r w' => Below wx.heap.size wx w' ∧ r = .returned (.bool true)) := fun z u wx hx hz hu => by
    have h := rSame_any 6 ⟨sk, ss, sn, sa, sm, sc⟩ z _ _ wx (HS6.out.kp hx).lo hz
    rw [same_srs hu] at h
    exact h
  have H8 : Hid (∀ wx, Below w6.heap.size w6 wx → Calls Try.prog 13 #[.agg #[.int .i64 k, .string s, .int .i64 x, .slice xa m xc]] wx fun r w' => Below wx.heap.size wx w' ∧ r = .returned (.int .i64 (depT tX : Nat))) := fun wx hx => (Depth_all 6 (by omega) ⟨k, s, x, xa, m, xc⟩ _ wx (HX6.out.kp hx).lo).2
  have H9 : Hid (∀ wx, Below w6.heap.size w6 wx → Calls Try.prog 14 #[.agg #[.int .i64 k, .string s, .int .i64 x, .slice xa m xc]] wx fun r w' => Below wx.heap.size wx w' ∧ r = .returned (.int .i64 (depT tX : Nat))) := fun wx hx => depth_all 6 (by omega) ⟨k, s, x, xa, m, xc⟩ _ wx (HX6.out.kp hx).lo
  have H10 : Hid (∀ wx, Below w6.heap.size w6 wx → Calls Try.prog 15 #[.agg #[.int .i64 k, .string s, .int .i64 x, .slice xa m xc]] wx fun r w' => Below wx.heap.size wx w' ∧ r = .returned (.bool (k == 2))) := fun wx hx => Failed_any ⟨k, s, x, xa, m, xc⟩ wx
  have HD : Hid (Below w6.heap.size w6 w6.drew) := below_drewN w6 1
  generalize sameT tX tY = b1 at H1 H2
  generalize alikeT tX tY = b2 at H3 H4
  generalize depT tX = dp at H8 H9
  clear HA6 HC6 HD6 HX6 HY6 HS6 HX5 HY5 HS5 HA5 HC5 HX4 HY4 HA4 HC4 HX3 HY3 HA3 HX2 HA2 HX1
  go_upto_region 4 with fail
  try rw [hw6]
  clear hw6
  refine wp_region_L 45 (fun w' => w'.cell? ⟨w1.heap.size, 0, none⟩ = some (.int .i64 k) ∧ w'.cell? ⟨w1.heap.size, 1, none⟩ = some (.string s) ∧ w'.cell? ⟨w1.heap.size, 2, none⟩ = some (.int .i64 x) ∧ w'.cell? ⟨w1.heap.size, 3, none⟩ = some (.slice xa m xc) ∧ w'.cell? ⟨w3.heap.size, 0, none⟩ = some (.int .i64 yk) ∧ w'.cell? ⟨w3.heap.size, 1, none⟩ = some (.string ys) ∧ w'.cell? ⟨w3.heap.size, 2, none⟩ = some (.int .i64 yn) ∧ w'.cell? ⟨w3.heap.size, 3, none⟩ = some (.slice ya ym yc) ∧ w'.cell? ⟨w5.heap.size, 0, none⟩ = some (.int .i64 sk) ∧ w'.cell? ⟨w5.heap.size, 1, none⟩ = some (.string ss) ∧ w'.cell? ⟨w5.heap.size, 2, none⟩ = some (.int .i64 sn) ∧ w'.cell? ⟨w5.heap.size, 3, none⟩ = some (.slice sa sm sc)) [false, false, false, false, false, false, false, false, false, false, false, false, false, false, false, false, false, false, false, false, false, false, false, false, false, false, false, false, false, false, false, false, false, false, false, false, false, false, false, false, false, false, false, false, false, false] ?_
  iterate 2
    refine tk (v := ?_) 0 (HAll.out _ HD.out) ?_ ?_
    rotate_left
    · (intro w hSw; (try dsimp only at hSw); go_simp; try with_reducible rfl)
    simp only [Act.put, uA, uB, uC]
  iterate 2
    refine tk (v := ?_) 3 (HAll.out _ HD.out) ?_ ?_
    rotate_left
    · (intro w hSw; (try dsimp only at hSw); go_simp; try with_reducible rfl)
    simp only [Act.put, uA, uB, uC]
  refine on1 2 fun K hK => ?_
  go_simp
  refine (H1.out _ HD.out).mono ?_
  rintro e wx ⟨hb, rfl⟩
  replace HD := step_below HD hb
  clear hb
  refine hK.out _ _ (fun _ => HAll.out _ HD.out) ?_
  clear hK
  simp only [uA, uB, uC]
  refine on1 5 fun K hK => ?_
  go_simp
  refine (H2.out _ HD.out).mono ?_
  rintro e wx ⟨hb, rfl⟩
  replace HD := step_below HD hb
  clear hb
  refine hK.out _ _ (fun _ => HAll.out _ HD.out) ?_
  clear hK
  simp only [uA, uB, uC]
  iterate 4
    refine tk (v := ?_) 6 (HAll.out _ HD.out) ?_ ?_
    rotate_left
    · (intro w hSw; (try dsimp only at hSw); go_simp; try with_reducible rfl)
    simp only [Act.put, uA, uB, uC]
  iterate 2
    refine tk (v := ?_) 11 (HAll.out _ HD.out) ?_ ?_
    rotate_left
    · (intro w hSw; (try dsimp only at hSw); go_simp; try with_reducible rfl)
    simp only [Act.put, uA, uB, uC]
  refine on1w 10 fun K hK => ?_
  go_simp
  refine (H3.out _ HD.out).mono ?_
  rintro e wx ⟨hb, rfl⟩
  replace HD := step_below HD hb
  clear hb
  refine hK.out _ _ (fun _ => HAll.out _ HD.out) ?_
  clear hK
  simp only [uA, uB, uC]
  refine on1w 13 fun K hK => ?_
  go_simp
  refine (H4.out _ HD.out).mono ?_
  rintro e wx ⟨hb, rfl⟩
  replace HD := step_below HD hb
  clear hb
  refine hK.out _ _ (fun _ => HAll.out _ HD.out) ?_
  clear hK
  simp only [uA, uB, uC]
  iterate 5
    refine tk (v := ?_) 14 (HAll.out _ HD.out) ?_ ?_
    rotate_left
    · (intro w hSw; (try dsimp only at hSw); go_simp; try with_reducible rfl)
    simp only [Act.put, uA, uB, uC]
  refine on1w 19 fun K hK => ?_
  go_simp
  refine (H5.out _ HD.out).mono ?_
  rintro e wx ⟨hb, rfl⟩
  replace HD := step_below HD hb
  clear hb
  refine hK.out _ _ (fun _ => HAll.out _ HD.out) ?_
  clear hK
  simp only [uA, uB, uC]
  iterate 4
    refine tk (v := ?_) 20 (HAll.out _ HD.out) ?_ ?_
    rotate_left
    · (intro w hSw; (try dsimp only at hSw); go_simp; try with_reducible rfl)
    simp only [Act.put, uA, uB, uC]
  refine on1w 24 fun K hK => ?_
  go_simp
  refine (H6.out _ HD.out).mono ?_
  rintro e wx ⟨hb, Z, u, rfl, hv, hu⟩
  replace HD := step_below HD hb
  have HZ : Hid _ := hv.lo
  have HU : Hid _ := hu
  obtain ⟨Zk, Zs, Zn, Za, Zm, Zc⟩ := Z
  clear hb hv hu
  simp only [El.v]
  refine hK.out _ _ (fun _ => HAll.out _ HD.out) ?_
  clear hK
  simp only [uA, uB, uC]
  refine on1w 25 fun K hK => ?_
  go_simp
  refine (H7.out ⟨Zk, Zs, Zn, Za, Zm, Zc⟩ _ _ HD.out HZ.out HU.out).mono ?_
  rintro e wx ⟨hb, rfl⟩
  replace HD := step_below HD hb
  clear hb
  refine hK.out _ _ (fun _ => HAll.out _ HD.out) ?_
  clear hK
  simp only [uA, uB, uC]
  iterate 3
    refine tk (v := ?_) 26 (HAll.out _ HD.out) ?_ ?_
    rotate_left
    · (intro w hSw; (try dsimp only at hSw); go_simp; try with_reducible rfl)
    simp only [Act.put, uA, uB, uC]
  refine tk (v := ?_) 30 (HAll.out _ HD.out) ?_ ?_
  rotate_left
  · (intro w hSw; (try dsimp only at hSw); go_simp; try with_reducible rfl)
  simp only [Act.put, uA, uB, uC]
  refine on1w 29 fun K hK => ?_
  go_simp
  refine (H8.out _ HD.out).mono ?_
  rintro e wx ⟨hb, rfl⟩
  replace HD := step_below HD hb
  clear hb
  refine hK.out _ _ (fun _ => HAll.out _ HD.out) ?_
  clear hK
  simp only [uA, uB, uC]
  refine on1w 31 fun K hK => ?_
  go_simp
  refine (H9.out _ HD.out).mono ?_
  rintro e wx ⟨hb, rfl⟩
  replace HD := step_below HD hb
  clear hb
  refine hK.out _ _ (fun _ => HAll.out _ HD.out) ?_
  clear hK
  simp only [uA, uB, uC]
  iterate 4
    refine tk (v := ?_) 32 (HAll.out _ HD.out) ?_ ?_
    rotate_left
    · (intro w hSw; (try dsimp only at hSw); go_simp; try with_reducible rfl)
    simp only [Act.put, uA, uB, uC]
  iterate 3
    refine tk (v := ?_) 37 (HAll.out _ HD.out) ?_ ?_
    rotate_left
    · (intro w hSw; (try dsimp only at hSw); go_simp; try with_reducible rfl)
    simp only [Act.put, uA, uB, uC]
  refine on1w 36 fun K hK => ?_
  go_simp
  refine (H10.out _ HD.out).mono ?_
  rintro e wx ⟨hb, rfl⟩
  replace HD := step_below HD hb
  clear hb
  refine hK.out _ _ (fun _ => HAll.out _ HD.out) ?_
  clear hK
  simp only [uA, uB, uC]
  iterate 3
    refine tk (v := ?_) 40 (HAll.out _ HD.out) ?_ ?_
    rotate_left
    · (intro w hSw; (try dsimp only at hSw); go_simp; try with_reducible rfl)
    simp only [Act.put, uA, uB, uC]
  refine on1w 43 fun K hK => ?_
  go_simp
  refine (HK _).mono ?_
  rintro e wx ⟨hb, rfl⟩
  replace HD := step_below HD hb
  clear hb
  refine hK.out _ _ (fun _ => HAll.out _ HD.out) ?_
  clear hK
  simp only [uA, uB, uC]
  refine tk (v := ?_) 44 (HAll.out _ HD.out) ?_ ?_
  rotate_left
  · (intro w hSw; (try dsimp only at hSw); go_simp; try with_reducible rfl)
  simp only [Act.put, uA, uB, uC]
  refine on1 45 fun K hK => ?_
  go_simp
  refine lst hK ?_
  clear hK
  have HE := step_below HB6 HD.out
  go_wp2
  go_ret
  exact ⟨rfl, HE.out⟩
end Go.Proofs.Ytiamgnfbgiognaa

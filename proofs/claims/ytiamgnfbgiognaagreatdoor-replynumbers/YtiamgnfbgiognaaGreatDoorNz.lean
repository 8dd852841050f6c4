/-
  ReplyNumbers: each Kind against each, walked.
-/
import Derived.Test.YtiamgnfbgiognaaGreatDoorNy
import Derived.Test.YtiamgnfbgiognaaGreatDoorUe
namespace Go.Proofs.YtiamgnfbgiognaaGreatDoor
open Go.RowKit Go.PlainAid

theorem same_self (t : RT) : sameT t t = true := by unfold sameT; rw [cmpT_self]; rfl
set_option maxRecDepth 100000 in
set_option maxHeartbeats 8000000 in
theorem numbers_any (w : World) (hg : Laid w) : Calls Tryz.prog 3 #[] w fun r w' => r = .returned (.bool true) ∧ Below w.heap.size w w' := by
  have HG : Hid (Laid w) := hg
  have HP : Hid (0 < w.heap.size) := lt_of_cell? hg
  have HK := known_any
  clear hg
  go_enter Tryz.func3, Tryz.ntmps3
  go_wp2
  go_loopg [1] 13 (fun gk iv wr => ∃ (p : Nat) (a : Int), Hid (p + gk = 13) ∧ Hid (a = p - 1) ∧ -1 ≤ a ∧ a ≤ 12 ∧ iv = .int .i64 a ∧ Hid (Below w.heap.size w wr))
  case atStart => exact ⟨0, -1, (rfl : 0 + 13 = 13), (rfl : (-1 : Int) = 0 - 1), by omega, by omega, rfl, Below.refl _ _⟩
  case round =>
    obtain ⟨p, a, HPa, HAa, ha1, ha2, rfl, HB⟩ := hrel
    by_cases h8 : a < 12
    · obtain ⟨wb, hwb⟩ : ∃ wb, wb = wr := ⟨_, rfl⟩
      subst hwb
      obtain ⟨gq, hgq⟩ : ∃ gq, gq = gk := ⟨_, rfl⟩
      subst hgq
      go_wp2
      go_loopg [2] 13 (fun gk iv wr => ∃ (p : Nat) (b : Int), Hid (p + gk = 13) ∧ Hid (b = p - 1) ∧ -1 ≤ b ∧ b ≤ 12 ∧ iv = .int .i64 b ∧ Hid (Below w.heap.size w wr))
      case atStart => exact ⟨0, -1, (rfl : 0 + 13 = 13), (rfl : (-1 : Int) = 0 - 1), by omega, by omega, rfl, HB⟩
      case round =>
      obtain ⟨p2, b, HPb, HBb, hb1, hb2, rfl, HB2⟩ := hrel
      by_cases h9 : b < 12
      · obtain ⟨w1, hw1⟩ : ∃ w1, wr.alloc (.cells #[.int .i64 3, .string ⟨#[]⟩, .int .i64 1, .slice none 0 0, .int .i64 4, .string ⟨#[]⟩, .int .i64 0, .slice none 0 0] 24) = w1 := ⟨_, rfl⟩
        have hv1 := row2 wr w1 3 4 1 0 hw1 a ⟨#[115]⟩ 1
        have hb1' : Below wr.heap.size wr w1 := by rw [← hw1]; exact alloc_below wr _
        obtain ⟨w2, hw2⟩ : ∃ w2, w1.alloc (.cells #[.int .i64 a, .string ⟨#[115]⟩, .int .i64 1, .slice (some ⟨wr.heap.size, 0, none⟩) 2 2] 24) = w2 := ⟨_, rfl⟩
        have hb2' : Below w1.heap.size w1 w2 := by rw [← hw2]; exact alloc_below w1 _
        have HA2 : Hid (BR w2 w1.heap.size a ⟨#[115]⟩ 1 (some ⟨wr.heap.size, 0, none⟩) 2 2) := by rw [← hw2]; exact BR.new w1 _ _ _ _ _ _
        obtain ⟨w3, hw3⟩ : ∃ w3, w2.alloc (.cells #[.int .i64 4, .string ⟨#[]⟩, .int .i64 0, .slice none 0 0, .int .i64 3, .string ⟨#[]⟩, .int .i64 1, .slice none 0 0] 24) = w3 := ⟨_, rfl⟩
        have hv3 := row2 w2 w3 4 3 0 1 hw3 b ⟨#[116]⟩ 2
        have hb3' : Below w2.heap.size w2 w3 := by rw [← hw3]; exact alloc_below w2 _
        obtain ⟨w4, hw4⟩ : ∃ w4, w3.alloc (.cells #[.int .i64 b, .string ⟨#[116]⟩, .int .i64 2, .slice (some ⟨w2.heap.size, 0, none⟩) 2 2] 24) = w4 := ⟨_, rfl⟩
        have hb4' : Below w3.heap.size w3 w4 := by rw [← hw4]; exact alloc_below w3 _
        have HC4 : Hid (BR w4 w3.heap.size b ⟨#[116]⟩ 2 (some ⟨w2.heap.size, 0, none⟩) 2 2) := by rw [← hw4]; exact BR.new w3 _ _ _ _ _ _
        have HA4 : Hid _ := (HA2.out.keep hb3').keep hb4'
        have HX4 : Hid (VL w4 1 ⟨a, ⟨#[115]⟩, 1, some ⟨wr.heap.size, 0, none⟩, 2, 2⟩ _) := (((hv1.kp hb2').kp hb3').kp hb4').lo
        have HY4 : Hid (VL w4 1 ⟨b, ⟨#[116]⟩, 2, some ⟨w2.heap.size, 0, none⟩, 2, 2⟩ _) := (hv3.kp hb4').lo
        have HB4 := step_below (step_below (step_below (step_below HB2 hb1') hb2') hb3') hb4'
        have HAll : Hid (∀ wx, Below w4.heap.size w4 wx → wx.cell? ⟨w1.heap.size, 0, none⟩ = some (.int .i64 a) ∧ wx.cell? ⟨w1.heap.size, 1, none⟩ = some (.string ⟨#[115]⟩) ∧ wx.cell? ⟨w1.heap.size, 2, none⟩ = some (.int .i64 1) ∧ wx.cell? ⟨w1.heap.size, 3, none⟩ = some (.slice (some ⟨wr.heap.size, 0, none⟩) 2 2) ∧ wx.cell? ⟨w3.heap.size, 0, none⟩ = some (.int .i64 b) ∧ wx.cell? ⟨w3.heap.size, 1, none⟩ = some (.string ⟨#[116]⟩) ∧ wx.cell? ⟨w3.heap.size, 2, none⟩ = some (.int .i64 2) ∧ wx.cell? ⟨w3.heap.size, 3, none⟩ = some (.slice (some ⟨w2.heap.size, 0, none⟩) 2 2)) := fun wx hx => by
          have h1 := HA4.out.keep hx
          have h2 := HC4.out.keep hx
          exact ⟨h1.c0, h1.c1, h1.c2, h1.c3, h2.c0, h2.c1, h2.c2, h2.c3⟩
        generalize (RT.mk a ⟨#[115]⟩ 1 [.mk 3 ⟨#[]⟩ 1 [], .mk 4 ⟨#[]⟩ 0 []]) = tX at HX4
        generalize (RT.mk b ⟨#[116]⟩ 2 [.mk 4 ⟨#[]⟩ 0 [], .mk 3 ⟨#[]⟩ 1 []]) = tY at HY4
        have H1 : Hid (∀ wx, Below w4.heap.size w4 wx → Calls Tryz.prog 4 #[.agg #[.int .i64 a, .string ⟨#[115]⟩, .int .i64 1, .slice (some ⟨wr.heap.size, 0, none⟩) 2 2], .agg #[.int .i64 b, .string ⟨#[116]⟩, .int .i64 2, .slice (some ⟨w2.heap.size, 0, none⟩) 2 2]] wx fun r w' => Below wx.heap.size wx w' ∧ r = .returned (.bool (sameT tX tY))) := fun wx hx => Same_all 1 ⟨a, ⟨#[115]⟩, 1, some ⟨wr.heap.size, 0, none⟩, 2, 2⟩ ⟨b, ⟨#[116]⟩, 2, some ⟨w2.heap.size, 0, none⟩, 2, 2⟩ _ _ wx (HX4.out.kp hx).lo (HY4.out.kp hx).lo
        have H2 : Hid (∀ wx, Below w4.heap.size w4 wx → Calls Tryz.prog 5 #[.agg #[.int .i64 a, .string ⟨#[115]⟩, .int .i64 1, .slice (some ⟨wr.heap.size, 0, none⟩) 2 2], .agg #[.int .i64 b, .string ⟨#[116]⟩, .int .i64 2, .slice (some ⟨w2.heap.size, 0, none⟩) 2 2]] wx fun r w' => Below wx.heap.size wx w' ∧ r = .returned (.bool (sameT tX tY))) := fun wx hx => rSame_any 1 ⟨a, ⟨#[115]⟩, 1, some ⟨wr.heap.size, 0, none⟩, 2, 2⟩ ⟨b, ⟨#[116]⟩, 2, some ⟨w2.heap.size, 0, none⟩, 2, 2⟩ _ _ wx (HX4.out.kp hx).lo (HY4.out.kp hx).lo
        have H3 : Hid (∀ wx, Below w4.heap.size w4 wx → Calls Tryz.prog 6 #[.agg #[.int .i64 a, .string ⟨#[115]⟩, .int .i64 1, .slice (some ⟨wr.heap.size, 0, none⟩) 2 2], .agg #[.int .i64 b, .string ⟨#[116]⟩, .int .i64 2, .slice (some ⟨w2.heap.size, 0, none⟩) 2 2]] wx fun r w' => Below wx.heap.size wx w' ∧ r = .returned (.bool (alikeT tX tY))) := fun wx hx => Alike_any 1 ⟨a, ⟨#[115]⟩, 1, some ⟨wr.heap.size, 0, none⟩, 2, 2⟩ ⟨b, ⟨#[116]⟩, 2, some ⟨w2.heap.size, 0, none⟩, 2, 2⟩ _ _ wx (HX4.out.kp hx).lo (HY4.out.kp hx).lo
        have H4 : Hid (∀ wx, Below w4.heap.size w4 wx → Calls Tryz.prog 7 #[.agg #[.int .i64 a, .string ⟨#[115]⟩, .int .i64 1, .slice (some ⟨wr.heap.size, 0, none⟩) 2 2], .agg #[.int .i64 b, .string ⟨#[116]⟩, .int .i64 2, .slice (some ⟨w2.heap.size, 0, none⟩) 2 2]] wx fun r w' => Below wx.heap.size wx w' ∧ r = .returned (.bool (alikeT tX tY))) := fun wx hx => rAlike_any 1 ⟨a, ⟨#[115]⟩, 1, some ⟨wr.heap.size, 0, none⟩, 2, 2⟩ ⟨b, ⟨#[116]⟩, 2, some ⟨w2.heap.size, 0, none⟩, 2, 2⟩ _ _ wx (HX4.out.kp hx).lo (HY4.out.kp hx).lo
        have H5 : Hid (∀ wx, Below w4.heap.size w4 wx → Calls Tryz.prog 4 #[.agg #[.int .i64 a, .string ⟨#[115]⟩, .int .i64 1, .slice (some ⟨wr.heap.size, 0, none⟩) 2 2], .agg #[.int .i64 a, .string ⟨#[115]⟩, .int .i64 1, .slice (some ⟨wr.heap.size, 0, none⟩) 2 2]] wx fun r w' => Below wx.heap.size wx w' ∧ r = .returned (.bool true)) := fun wx hx => by
          have h := Same_all 1 ⟨a, ⟨#[115]⟩, 1, some ⟨wr.heap.size, 0, none⟩, 2, 2⟩ ⟨a, ⟨#[115]⟩, 1, some ⟨wr.heap.size, 0, none⟩, 2, 2⟩ _ _ wx (HX4.out.kp hx).lo (HX4.out.kp hx).lo
          rw [same_self] at h
          exact h
        have HD : Hid (Below w4.heap.size w4 w4.drew) := below_drewN w4 1
        generalize sameT tX tY = b1 at H1 H2
        generalize alikeT tX tY = b2 at H3 H4
        clear HA4 HC4 HX4 HY4 HA2 hv1 hv3 hb1' hb2' hb3' hb4'
        go_upto_region 9 with fail
        clear hw1 hw2 hw3 hw4
        refine wp_region_L 21 (fun w' => w'.cell? ⟨w1.heap.size, 0, none⟩ = some (.int .i64 a) ∧ w'.cell? ⟨w1.heap.size, 1, none⟩ = some (.string ⟨#[115]⟩) ∧ w'.cell? ⟨w1.heap.size, 2, none⟩ = some (.int .i64 1) ∧ w'.cell? ⟨w1.heap.size, 3, none⟩ = some (.slice (some ⟨wr.heap.size, 0, none⟩) 2 2) ∧ w'.cell? ⟨w3.heap.size, 0, none⟩ = some (.int .i64 b) ∧ w'.cell? ⟨w3.heap.size, 1, none⟩ = some (.string ⟨#[116]⟩) ∧ w'.cell? ⟨w3.heap.size, 2, none⟩ = some (.int .i64 2) ∧ w'.cell? ⟨w3.heap.size, 3, none⟩ = some (.slice (some ⟨w2.heap.size, 0, none⟩) 2 2)) [false, false, false, false, false, false, false, false, false, false, false, false, false, false, false, false, false, false, false, false, false, false] ?_
        iterate 2
          refine tk (v := ?_) 0 (HAll.out _ HD.out) ?_ ?_
          rotate_left
          · (intro w hSw; (try dsimp only at hSw); go_simp; try with_reducible rfl)
          simp only [Act.put, uA, uB, uC]
        iterate 2
          refine tk (v := ?_) 3 (HAll.out _ HD.out) ?_ ?_
          rotate_left
          · (intro w hSw; (try dsimp only at hSw); go_simp; try with_reducible rfl)
          simp only [Act.put, uA, uB, uC]
        refine on1 2 fun K hK => ?_
        go_simp
        refine (H1.out _ HD.out).mono ?_
        rintro e wx ⟨hb, rfl⟩
        replace HD := step_below HD hb
        clear hb
        refine hK.out _ _ (fun _ => (HAll.out _ HD.out)) ?_
        clear hK
        simp only [uA, uB, uC]
        refine on1 5 fun K hK => ?_
        go_simp
        refine (H2.out _ HD.out).mono ?_
        rintro e wx ⟨hb, rfl⟩
        replace HD := step_below HD hb
        clear hb
        refine hK.out _ _ (fun _ => (HAll.out _ HD.out)) ?_
        clear hK
        simp only [uA, uB, uC]
        iterate 4
          refine tk (v := ?_) 6 (HAll.out _ HD.out) ?_ ?_
          rotate_left
          · (intro w hSw; (try dsimp only at hSw); go_simp; try with_reducible rfl)
          simp only [Act.put, uA, uB, uC]
        iterate 2
          refine tk (v := ?_) 11 (HAll.out _ HD.out) ?_ ?_
          rotate_left
          · (intro w hSw; (try dsimp only at hSw); go_simp; try with_reducible rfl)
          simp only [Act.put, uA, uB, uC]
        refine on1w 10 fun K hK => ?_
        go_simp
        refine (H3.out _ HD.out).mono ?_
        rintro e wx ⟨hb, rfl⟩
        replace HD := step_below HD hb
        clear hb
        refine hK.out _ _ (fun _ => (HAll.out _ HD.out)) ?_
        clear hK
        simp only [uA, uB, uC]
        refine on1w 13 fun K hK => ?_
        go_simp
        refine (H4.out _ HD.out).mono ?_
        rintro e wx ⟨hb, rfl⟩
        replace HD := step_below HD hb
        clear hb
        refine hK.out _ _ (fun _ => (HAll.out _ HD.out)) ?_
        clear hK
        simp only [uA, uB, uC]
        iterate 5
          refine tk (v := ?_) 14 (HAll.out _ HD.out) ?_ ?_
          rotate_left
          · (intro w hSw; (try dsimp only at hSw); go_simp; try with_reducible rfl)
          simp only [Act.put, uA, uB, uC]
        refine on1w 19 fun K hK => ?_
        go_simp
        refine (H5.out _ HD.out).mono ?_
        rintro e wx ⟨hb, rfl⟩
        replace HD := step_below HD hb
        clear hb
        refine hK.out _ _ (fun _ => (HAll.out _ HD.out)) ?_
        clear hK
        simp only [uA, uB, uC]
        refine tk (v := ?_) 20 (HAll.out _ HD.out) ?_ ?_
        rotate_left
        · (intro w hSw; (try dsimp only at hSw); go_simp; try with_reducible rfl)
        simp only [Act.put, uA, uB, uC]
        refine on1 21 fun K hK => ?_
        go_simp
        refine lst hK ?_
        clear hK
        have HE := step_below HB4 HD.out
        clear HD HAll H1 H2 H3 H4 H5 HB4 HB2
        go_wp2
        go_roundg (gk - 1)
        case measure => have := HPb.out; have := HBb.out; omega
        case rel => exact ⟨p2 + 1, b + 1, by have := HPb.out; have := HBb.out; show _ = _; omega, by have := HBb.out; show _ = _; omega, by omega, by omega, by go_num, HE⟩
      · go_wp2
        go_roundg (gq - 1)
        case measure => have := HPa.out; have := HAa.out; omega
        case rel => exact ⟨p + 1, a + 1, by have := HPa.out; have := HAa.out; show _ = _; omega, by have := HAa.out; show _ = _; omega, by omega, by omega, by go_num, HB2⟩
    · obtain ⟨wb, hwb⟩ : ∃ wb, wb = wr := ⟨_, rfl⟩
      subst hwb
      obtain ⟨gq, hgq⟩ : ∃ gq, gq = gk := ⟨_, rfl⟩
      subst hgq
      go_wp2
      go_loopg [5] 27 (fun gk iv wr => ∃ (c : Nat), c + gk = 27 ∧ iv = .int .i64 c ∧ Hid (Below w.heap.size w wr))
      case atStart => exact ⟨0, by omega, rfl, HB⟩
      case round =>
      obtain ⟨c, hc, rfl, HB2⟩ := hrel
      by_cases h9 : (c : Int) < 27
      · have HN := New_code ⟨#[111, 116, 104, 101, 114]⟩ c wr (HG.out.keep HB2.out HP.out)
        go_wp2_with fail
        refine HN.mono ?_
        rintro e w1 ⟨E, rfl, hb1, hE⟩
        have HB3 := step_below HB2 hb1
        have HF := Fail_raw ⟨#[103, 101, 116]⟩ E c w1 (by decide) hE
        clear hb1 hE HN
        go_wp2_with fail
        refine HF.mono ?_
        rintro e w2 ⟨hb, rfl⟩
        have HB4 := step_below HB3 hb
        clear hb HF
        obtain ⟨nn, hnn⟩ : ∃ nn, shownB ⟨#[103, 101, 116]⟩ = nn := ⟨_, rfl⟩
        have HR := fun wx => ref_any c ⟨#[103, 101, 116]⟩ nn wx (by decide) hnn
        have hte : tellB c ⟨#[103, 101, 116]⟩ = textB c nn := by unfold tellB; rw [hnn]
        rw [hte]
        generalize textB c nn = T at HR ⊢
        have hq : (T.toList == T.toList) = true := by rw [str_beq]; simp
        clear hnn hte
        go_upto_region 15 with fail
        obtain ⟨w3, hw3⟩ : ∃ w3, w2.alloc (.cells #[.int .i64 2, .string T, .int .i64 0, .slice none 0 0] 24) = w3 := ⟨_, rfl⟩
        rw [hw3]
        have hb3 : Below w2.heap.size w2 w3 := by rw [← hw3]; exact alloc_below w2 _
        have HA3 : Hid (BR w3 w2.heap.size 2 T 0 none 0 0) := by rw [← hw3]; exact BR.new w2 _ _ _ _ _ _
        have HB5 := step_below HB4 hb3
        have HAll : Hid (∀ wx, Below w3.heap.size w3 wx → wx.cell? ⟨w2.heap.size, 0, none⟩ = some (.int .i64 2) ∧ wx.cell? ⟨w2.heap.size, 1, none⟩ = some (.string T) ∧ wx.cell? ⟨w2.heap.size, 2, none⟩ = some (.int .i64 0) ∧ wx.cell? ⟨w2.heap.size, 3, none⟩ = some (.slice none 0 0)) := fun wx hx => by
          have h1 := HA3.out.keep hx
          exact ⟨h1.c0, h1.c1, h1.c2, h1.c3⟩
        have HFl : Hid (∀ wx, Calls Tryz.prog 11 #[.agg #[.int .i64 2, .string T, .int .i64 0, .slice none 0 0]] wx fun r w' => Below wx.heap.size wx w' ∧ r = .returned (.bool true)) := fun wx => Failed_any ⟨2, T, 0, none, 0, 0⟩ wx
        have HD : Hid (Below w3.heap.size w3 w3.drew) := below_drewN w3 1
        clear hb3 hw3
        refine wp_region_L 14 (fun w' => w'.cell? ⟨w2.heap.size, 0, none⟩ = some (.int .i64 2) ∧ w'.cell? ⟨w2.heap.size, 1, none⟩ = some (.string T) ∧ w'.cell? ⟨w2.heap.size, 2, none⟩ = some (.int .i64 0) ∧ w'.cell? ⟨w2.heap.size, 3, none⟩ = some (.slice none 0 0)) [false, false, false, false, false, false, false, false, false, false, false, false, false, false, false] ?_
        iterate 7
          refine tk (v := ?_) 0 (HAll.out _ HD.out) ?_ ?_
          rotate_left
          · (intro w hSw; (try dsimp only at hSw); go_simp; try with_reducible rfl)
          simp only [Act.put, uA, uB, uC]
        refine on1w 7 fun K hK => ?_
        go_simp
        refine (HR _).mono ?_
        rintro e wx ⟨rfl, rfl⟩
        refine hK.out _ _ (fun _ => (HAll.out _ HD.out)) ?_
        clear hK
        simp only [uA, uB, uC]
        iterate 4
          refine tk (v := ?_) 8 (HAll.out _ HD.out) ?_ ?_
          rotate_left
          · (intro w hSw; (try dsimp only at hSw); go_simp; try with_reducible rfl)
          simp only [Act.put, uA, uB, uC]
        refine on1w 12 fun K hK => ?_
        go_simp
        refine (HFl.out _).mono ?_
        rintro e wx ⟨hb, rfl⟩
        replace HD := step_below HD hb
        clear hb
        refine hK.out _ _ (fun _ => (HAll.out _ HD.out)) ?_
        clear hK
        simp only [uA, uB, uC]
        refine tk (v := ?_) 13 (HAll.out _ HD.out) ?_ ?_
        rotate_left
        · (intro w hSw; (try dsimp only at hSw); go_simp; try with_reducible rfl)
        simp only [Act.put, uA, uB, uC]
        refine on1 14 fun K hK => ?_
        go_simp
        refine lst hK ?_
        clear hK
        have HE := step_below HB5 HD.out
        clear HD HAll HFl HR HB5 HB4 HB3 HB2 HA3
        go_wp2
        go_roundg (gk - 1)
        case measure => omega
        case rel => exact ⟨c + 1, by omega, by go_num, HE⟩
      · obtain ⟨w1, hw1⟩ : ∃ w1, wr.alloc (.cells #[.string ⟨#[97]⟩, .string ⟨#[98]⟩] 9) = w1 := ⟨_, rfl⟩
        have hb1 : Below wr.heap.size wr w1 := by rw [← hw1]; exact alloc_below wr _
        have HB3 := step_below HB2 hb1
        have HBk := Bulks_two wr.heap.size ⟨#[97]⟩ ⟨#[98]⟩ w1 (by rw [← hw1]; exact cell_new wr _ _ 0 _ rfl) (by rw [← hw1]; exact cell_new wr _ _ 1 _ rfl)
        clear hb1
        go_wp2_with fail
        refine HBk.mono ?_
        rintro e w2 ⟨hb, g', rfl, hc5⟩
        have HB4 := step_below HB3 hb
        clear hb HBk hw1
        obtain ⟨w3, hw3⟩ : ∃ w3, w2.alloc (.cells #[.int .i64 7, .string ⟨#[]⟩, .int .i64 0, .slice (some ⟨g', 0, none⟩) 2 2] 24) = w3 := ⟨_, rfl⟩
        have hb3 : Below w2.heap.size w2 w3 := by rw [← hw3]; exact alloc_below w2 _
        have HA3 : Hid (BR w3 w2.heap.size 7 ⟨#[]⟩ 0 (some ⟨g', 0, none⟩) 2 2) := by rw [← hw3]; exact BR.new w2 _ _ _ _ _ _
        have HC5 : Hid (w3.cell? ⟨g', 5, none⟩ = some (.string ⟨#[98]⟩)) := by
          show _ = _
          rw [hb3.cell (p := ⟨g', 5, none⟩) (World.block_lt_of_cell? w2 _ hc5)]
          exact hc5
        have HB5 := step_below HB4 hb3
        clear hb3 hc5
        go_wp2_with fail
        refine (Int_any _ _).mono ?_
        rintro e w4 ⟨hb, rfl⟩
        have HB6 := step_below HB5 hb
        have HA4 : Hid _ := HA3.out.keep hb
        have HC6 : Hid (w4.cell? ⟨g', 5, none⟩ = some (.string ⟨#[98]⟩)) := (hb.cell (p := ⟨g', 5, none⟩) (World.block_lt_of_cell? w3 _ HC5.out)).trans HC5.out
        have hf1 := field2 (-5) (.int .i64 3) (.string ⟨#[]⟩) (.slice none 0 0)
        clear hb hw3
        go_wp2_with fail
        refine (Int_any _ _).mono ?_
        rintro e w5 ⟨hb, rfl⟩
        have HB7 := step_below HB6 hb
        have HA5 : Hid _ := HA4.out.keep hb
        have HC7 : Hid (w5.cell? ⟨g', 5, none⟩ = some (.string ⟨#[98]⟩)) := (hb.cell (p := ⟨g', 5, none⟩) (World.block_lt_of_cell? w4 _ HC6.out)).trans HC6.out
        have hf2 := field0 3 (.string ⟨#[]⟩) (.int .i64 5) (.slice none 0 0)
        clear hb hf1
        go_wp2_with fail
        refine (Bulk_any _ _).mono ?_
        rintro e w6 ⟨hb, rfl⟩
        have HB8 := step_below HB7 hb
        have hA6 := HA5.out.keep hb
        have hC8 : w6.cell? ⟨g', 5, none⟩ = some (.string ⟨#[98]⟩) := (hb.cell (p := ⟨g', 5, none⟩) (World.block_lt_of_cell? w5 _ HC7.out)).trans HC7.out
        have hf3 := field1 (.int .i64 4) (.int .i64 0) (.slice none 0 0) ⟨#[120]⟩
        have hq1 : ((⟨#[120]⟩ : ByteArray).toList == (⟨#[120]⟩ : ByteArray).toList) = true := by rw [str_beq]; simp
        have hq2 : ((⟨#[98]⟩ : ByteArray).toList == (⟨#[98]⟩ : ByteArray).toList) = true := by rw [str_beq]; simp
        have p0 := hA6.c0
        have p3 := hA6.c3
        clear hb hf2 hA6
        go_wp2_with fail
        refine (OK_any _).mono ?_
        rintro e w7 ⟨hb, rfl⟩
        have HB9 := step_below HB8 hb
        have HFl := Failed_any ⟨1, ⟨#[79, 75]⟩, 0, none, 0, 0⟩ w7
        simp only [El.v] at HFl
        clear hb hf3 p0 p3 hC8
        go_wp2_with fail
        refine HFl.mono ?_
        rintro e w8 ⟨hb, rfl⟩
        have HB10 := step_below HB9 hb
        clear hb HFl
        go_wp2_with fail
        refine (HK _).mono ?_
        rintro e w9 ⟨hb, rfl⟩
        have HB11 := step_below HB10 hb
        clear hb
        go_wp2
        go_ret
        exact ⟨rfl, HB11.out⟩
end Go.Proofs.YtiamgnfbgiognaaGreatDoor
